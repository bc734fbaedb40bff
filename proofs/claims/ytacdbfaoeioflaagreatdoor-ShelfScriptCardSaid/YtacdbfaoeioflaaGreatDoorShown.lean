/-
  That a block is put (the laws' own 'shown'), by a contract; a shelf alone beside blocks of one's own.
-/
import Derived.Test.YtacdbfaoeioflaaGreatDoorOpen9
import Derived.Test.YtacdbfaoeioflaaGreatDoorLive
import Derived.Test.YtacdbfaoeioflaaGreatDoorEqBk
namespace Go.Proofs.YtacdbfaoeioflaaGreatDoor
open Go.RowKit

/-- The block of 'shown'. -/
def b3 : Bk := ⟨3, 1, ⟨#[120]⟩⟩
theorem b3_ok : refE b3 1 = 0 := by decide +kernel
theorem b3_pre (n : Int) : preE (List.replicate (size0 n) none) false b3 = 0 := by
  have hz := (size0_in n).1
  unfold preE newer
  rw [b3_ok, replicate_get]
  have hl : low (List.replicate (size0 n) none) = 0 := by
    unfold low
    rw [show List.replicate (size0 n) (none : Option Bk) = none :: List.replicate (size0 n - 1) none by rw [← List.replicate_succ]; congr 1; omega]
    rfl
  rw [hl, List.length_replicate]
  simp; omega

/-- A shelf and its plate, made since w0, beside the blocks O; all that lay in w0 lies as it did. -/
def Solo (w0 w : World) (sb mb pb : Nat) (s : St) (L : Lay) (odd : List Nat) (lost : Bool) (O : Nat → Prop) : Prop :=
  ∃ F, SF w sb mb pb s L odd lost F ∧ (∀ k, F k → w0.heap.size ≤ k) ∧ Below w0.heap.size w0 w ∧ ∀ k, O k → ¬ F k ∧ k < w.heap.size
/-- A plate alone. -/
def PlO (w0 w : World) (pb : Nat) (s : St) (O : Nat → Prop) : Prop := ∃ F, PB w pb s F ∧ (∀ k, F k → w0.heap.size ≤ k) ∧ Below w0.heap.size w0 w ∧ ∀ k, O k → ¬ F k ∧ k < w.heap.size
/-- The blocks O are as they were. -/
def Kept (O : Nat → Prop) (w w' : World) : Prop := ∀ k, O k → w'.heap[k]? = w.heap[k]?
theorem Kept.refl (O : Nat → Prop) (w : World) : Kept O w w := fun _ _ => rfl
theorem Kept.trans {O : Nat → Prop} {w w1 w2 : World} (h : Kept O w w1) (k : Kept O w1 w2) : Kept O w w2 := fun q hq => (k q hq).trans (h q hq)
section
variable {w0 w : World} {sb mb pb : Nat} {s : St} {L : Lay} {odd : List Nat} {lost : Bool} {O : Nat → Prop}
theorem Solo.bel (h : Solo w0 w sb mb pb s L odd lost O) : Below w0.heap.size w0 w := by obtain ⟨F, h1, h2, h3, h4⟩ := h; exact h3
theorem Solo.tab (h : Solo w0 w sb mb pb s L odd lost O) (hT : Tab w0) : Tab w := hT.below h.bel
theorem Solo.go (h : Solo w0 w sb mb pb s L odd lost O) (hT : Tab w0) : ∃ F, SF w sb mb pb s L odd lost F ∧ ¬ F 0 ∧ ∀ w' sb' mb' s' L' odd' lost', Goes F w w' (SF w' sb' mb' pb s' L' odd' lost') → Solo w0 w' sb' mb' pb s' L' odd' lost' O ∧ Kept O w w' := by
  obtain ⟨F, h1, h2, h3, h4⟩ := h
  have hh : (0 : Nat) < w0.heap.size := World.block_lt_of_cell? w0 _ (hT 0 (by decide))
  refine ⟨F, h1, fun e => by have := h2 _ e; omega, fun w' sb' mb' s' L' odd' lost' ⟨F', k1, k2, k3⟩ => ⟨⟨F', k1, fun k hk => ?_, k3.below h3 h3.size h2, fun k hk => ⟨fun hf => ?_, Nat.lt_of_lt_of_le (h4 k hk).2 k3.size⟩⟩, fun k hk => k3.block k (h4 k hk).2 (h4 k hk).1⟩⟩
  · rcases k2 k hk with h | h
    · exact h2 k h
    · exact Nat.le_trans h3.size h
  · rcases k2 k hf with h | h
    · exact (h4 k hk).1 h
    · have := (h4 k hk).2; omega
theorem Solo.below {w' : World} (h : Solo w0 w sb mb pb s L odd lost O) (hb : Below w.heap.size w w') : Solo w0 w' sb mb pb s L odd lost O ∧ Kept O w w' := by
  obtain ⟨F, h1, h2, h3, h4⟩ := h
  exact ⟨⟨F, h1.below hb, h2, h3.trans (hb.mono h3.size), fun k hk => ⟨(h4 k hk).1, Nat.lt_of_lt_of_le (h4 k hk).2 hb.size⟩⟩, fun k hk => hb.block k (h4 k hk).2⟩
/-- One's own blocks turn, and new ones. -/
theorem Solo.turn {w' : World} {O' : Nat → Prop} (h : Solo w0 w sb mb pb s L odd lost O) (hk : Keeps O w w') (h0 : ∀ k, O k → w0.heap.size ≤ k) (hO : ∀ k, O' k → O k ∨ w.heap.size ≤ k) (hlt : ∀ k, O' k → k < w'.heap.size) : Solo w0 w' sb mb pb s L odd lost O' := by
  obtain ⟨F, h1, h2, h3, h4⟩ := h
  refine ⟨F, h1.keeps hk (fun k hf ho => (h4 k ho).1 hf), h2, hk.below h3 h3.size h0, fun k hk' => ⟨fun hf => ?_, hlt k hk'⟩⟩
  rcases hO k hk' with h | h
  · exact (h4 k h).1 hf
  · have := h1.lt k hf; omega
/-- The plate of a shelf that is given up. -/
theorem Solo.plate (h : Solo w0 w sb mb pb s L odd lost O) : PlO w0 w pb s O := by
  obtain ⟨F, h1, h2, h3, h4⟩ := h
  obtain ⟨Fp, vb, k1, k2, k3, k5⟩ := h1
  exact ⟨Fp, k1, fun k hk => h2 k ((k5 k).2 (.inl hk)), h3, fun k hk => ⟨fun hf => (h4 k hk).1 ((k5 k).2 (.inl hf)), (h4 k hk).2⟩⟩
theorem PlO.bel (h : PlO w0 w pb s O) : Below w0.heap.size w0 w := by obtain ⟨F, h1, h2, h3, h4⟩ := h; exact h3
theorem PlO.below {w' : World} (h : PlO w0 w pb s O) (hb : Below w.heap.size w w') : PlO w0 w' pb s O ∧ Kept O w w' := by
  obtain ⟨F, h1, h2, h3, h4⟩ := h
  exact ⟨⟨F, h1.below hb, h2, h3.trans (hb.mono h3.size), fun k hk => ⟨(h4 k hk).1, Nat.lt_of_lt_of_le (h4 k hk).2 hb.size⟩⟩, fun k hk => hb.block k (h4 k hk).2⟩
theorem PlO.go (h : PlO w0 w pb s O) : ∃ F, PB w pb s F ∧ ∀ w' s', Goes F w w' (PB w' pb s') → PlO w0 w' pb s' O ∧ Kept O w w' := by
  obtain ⟨F, h1, h2, h3, h4⟩ := h
  refine ⟨F, h1, fun w' s' ⟨F', k1, k2, k3⟩ => ⟨⟨F', k1, fun k hk => ?_, k3.below h3 h3.size h2, fun k hk => ⟨fun hf => ?_, Nat.lt_of_lt_of_le (h4 k hk).2 k3.size⟩⟩, fun k hk => k3.block k (h4 k hk).2 (h4 k hk).1⟩⟩
  · rcases k2 k hk with h | h
    · exact h2 k h
    · exact Nat.le_trans h3.size h
  · rcases k2 k hf with h | h
    · exact (h4 k hk).1 h
    · have := (h4 k hk).2; omega
/-- A plate that is opened. -/
theorem plo_open (h : PlO w0 w pb s O) (hT : Tab w0) (hG : Good s) (hgo : s.gone = false) {n : Nat} (hn : s.is.length = n) :
    Calls Tryz.prog 11 #[.pointer (some ⟨pb, 0, none⟩)] w fun e w' => ∃ sb mb : Nat, e = .returned (.tuple #[.pointer (some ⟨sb, 0, none⟩), .int .i64 0]) ∧ Solo w0 w' sb mb pb s (scan (readB s) n n) (odds (readB s) n) false O ∧ Kept O w w' := by
  obtain ⟨F, h1, h2, h3, h4⟩ := h
  have hh : (0 : Nat) < w0.heap.size := World.block_lt_of_cell? w0 _ (hT 0 (by decide))
  refine (open_yes9 h1 hG hgo hn (hT.below h3) (fun e => by have := h2 _ e; omega)).mono ?_
  rintro e w' ⟨sb, mb, he, F', k1, k2, k3⟩
  refine ⟨sb, mb, he, ⟨F', k1, fun k hk => ?_, k3.below h3 h3.size h2, fun k hk => ⟨fun hf => ?_, Nat.lt_of_lt_of_le (h4 k hk).2 k3.size⟩⟩, fun k hk => k3.block k (h4 k hk).2 (h4 k hk).1⟩
  · rcases k2 k hk with h | h
    · exact h2 k h
    · exact Nat.le_trans h3.size h
  · rcases k2 k hf with h | h
    · exact (h4 k hk).1 h
    · have := (h4 k hk).2; omega
theorem plo_new (hb : Below w0.heap.size w0 w) (n : Int) (hO : ∀ k, O k → k < w.heap.size) :
    Calls Tryz.prog 9 #[.int .i64 n] w fun e w' => ∃ pb : Nat, e = .returned (.pointer (some ⟨pb, 0, none⟩)) ∧ PlO w0 w' pb (fresh n) O ∧ Kept O w w' := by
  refine (new_any n w).mono ?_
  rintro e w' ⟨he, F, h1, h2, h3⟩
  refine ⟨_, he, ⟨F, h1, fun k hk => ?_, h3.below hb hb.size (fun _ h => h.elim), fun k hk => ⟨fun hf => ?_, Nat.lt_of_lt_of_le (hO k hk) h3.size⟩⟩, fun k hk => h3.block k (hO k hk) (fun h => h)⟩
  · rcases h2 k hk with h | h
    · exact h.elim
    · exact Nat.le_trans hb.size h
  · rcases h2 k hf with h | h
    · exact h
    · have := hO k hk; omega
theorem so_put (h : Solo w0 w sb mb pb s L odd lost O) (hT : Tab w0) {n k : Nat} (hR : Rest s n k) (hk : k ≤ 900000) (hlost : lost = true → s.gone = true) (hL : L.length = n) {b : Bk} (hid : i64 b.id) :
    Calls Tryz.prog 13 #[.pointer (some ⟨sb, 0, none⟩), b.val] w fun e w' => e = .returned (.int .i64 (putE L s b)) ∧ Solo w0 w' sb mb pb (putS L s b) (putY L s b) odd (lostP lost (putE L s b)) O ∧ Kept O w w' := by
  obtain ⟨F, h1, h2, h3⟩ := h.go hT
  exact (put_any h1 (h.tab hT) h2 hR hk hlost hL hid).mono fun e w' ⟨he, hg⟩ => ⟨he, h3 _ _ _ _ _ _ _ hg⟩
theorem so_get (h : Solo w0 w sb mb pb s L odd lost O) {id : Int} (hid : i64 id) :
    Calls Tryz.prog 27 #[.pointer (some ⟨sb, 0, none⟩), .int .i64 id] w fun e w' => e = .returned (.tuple #[(getB L id).val, .int .i64 (getE L id)]) ∧ Below w.heap.size w w' := by
  obtain ⟨F, h1, h2, h3, h4⟩ := h
  exact get_any h1 hid
end

theorem b3_sound : Sound (fresh 4) (List.replicate 4 none) 4 0 := by have := Sound.fresh 4; exact this
theorem b3_put : putE (List.replicate 4 none) (fresh 4) b3 = 0 ∧ getL (putY (List.replicate 4 none) (fresh 4) b3) 3 = some b3 := by
  have h := (b3_sound.live.put (L := List.replicate 4 none) (by simp [fresh, size0]) b3).1
  have h0 : putE (List.replicate 4 none) (fresh 4) b3 = 0 := h.trans (b3_pre 4)
  exact ⟨h0, by rw [put_get b3_sound.fit.good h0, if_pos (by rfl)]⟩
set_option maxRecDepth 100000 in
set_option maxHeartbeats 4000000 in
theorem shown_any {w : World} (hT : Tab w) : Calls Tryz.prog 8 #[] w fun e w' => e = .returned (.bool true) ∧ Below w.heap.size w w' := by
  have HN := Lib.hid (plo_new (w0 := w) (w := w) (O := fun _ => False) (Below.refl _ _) 4 (fun _ h => h.elim))
  go_enter Tryz.func8, Tryz.ntmps8
  go_wp2_with fail
  go_at_call 9
  refine HN.out.mono ?_
  rintro e w1 ⟨pb, rfl, k1, -⟩
  have P1 := Lib.hid k1
  clear k1
  go_wp2_with fail
  go_at_call 11
  refine (plo_open P1.out hT (Good.fresh 4) rfl (n := 4) (by simp [fresh, size0])).mono ?_
  rintro e w2 ⟨sb, mb, rfl, k1, -⟩
  have S2 := Lib.hid k1
  clear k1
  go_wp2_with fail
  obtain ⟨ho1, ho2⟩ := b3_sound.opens
  rw [ho1, ho2] at S2
  have hba : Below w2.heap.size w2 (w2.alloc (.cells #[.int .i64 3, .int .i64 1, .string ⟨#[120]⟩] 37)) := (Below.refl _ _).alloc (Nat.le_refl _) _
  have S3 := Lib.hid (S2.out.turn (O' := fun k => k = w2.heap.size) (Keeps.of_below hba) (fun _ h => h.elim) (fun k hk => .inr (Nat.le_of_eq hk.symm)) (fun k hk => by rw [hk]; simp))
  have A3 := Lib.hid (show AB (w2.alloc (.cells #[.int .i64 3, .int .i64 1, .string ⟨#[120]⟩] 37)) w2.heap.size b3 from AB.fresh w2 b3)
  clear hba ho1 ho2
  obtain ⟨d0, d1, d2⟩ := A3.out.all
  generalize w2.alloc (.cells #[.int .i64 3, .int .i64 1, .string ⟨#[120]⟩] 37) = w3 at S3 A3 d0 d1 d2 ⊢
  go_at_call 13
  obtain ⟨p1, p2⟩ := b3_put
  have HPut := Lib.hid (p1 ▸ so_put S3.out hT b3_sound.rest (by omega) (fun h => by cases h) (by simp) (Bk.id64 b3_ok))
  refine Calls.mono (show Calls Tryz.prog 13 #[.pointer (some ⟨sb, 0, none⟩), .agg #[.int .i64 3, .int .i64 1, .string ⟨#[120]⟩]] w3 _ from HPut.out) ?_
  rintro e w4 ⟨rfl, k1, k2⟩
  have S4 := Lib.hid k1
  have A4 := Lib.hid (show AB w4 w2.heap.size b3 from (k2 _ rfl).trans A3.out)
  have hG := Lib.hid (show getB (putY (List.replicate 4 none) (fresh 4) b3) 3 = b3 ∧ getE (putY (List.replicate 4 none) (fresh 4) b3) 3 = 0 from ⟨by unfold getB; rw [p2]; rfl, by unfold getE; rw [p2]; rfl⟩)
  clear k1 k2 p1 p2 d0 d1 d2
  go_wp2_with fail
  go_at_call 27
  refine (so_get S4.out (id := 3) (by rw [i64_iff]; omega)).mono ?_
  rintro e w5 ⟨rfl, k2⟩
  rw [hG.out.1, hG.out.2]
  have A5 := Lib.hid (A4.out.below k2)
  have B5 := Lib.hid ((S4.out.below k2).1.bel)
  have A6 := Lib.hid (A5.out.below (((Below.refl w5.heap.size w5).alloc (Nat.le_refl _) (.cells b3.cells 37))))
  obtain ⟨d0, d1, d2⟩ := A6.out.all
  have heq := bk_same b3
  clear k2
  go_wp2
  go_ret
  exact ⟨rfl, B5.out.alloc B5.out.size _⟩
end Go.Proofs.YtacdbfaoeioflaaGreatDoor
