/-
  The package's shelf and the document's own, side by side: what a call of either one leaves.

  Each call of the two shelves, side by side: what it answers, what it leaves.
-/
import Derived.Test.YtacdbfaoeioflaaGreatDoorPlate9
import Derived.Test.YtacdbfaoeioflaaGreatDoorDrop9
import Derived.Test.YtacdbfaoeioflaaGreatDoorRput9
import Derived.Test.YtacdbfaoeioflaaGreatDoorRdrop
import Derived.Test.YtacdbfaoeioflaaGreatDoorRopen
import Derived.Test.YtacdbfaoeioflaaGreatDoorRcrash
import Derived.Test.YtacdbfaoeioflaaGreatDoorRnew
import Derived.Test.YtacdbfaoeioflaaGreatDoorHeavy9
namespace Go.Proofs.YtacdbfaoeioflaaGreatDoor
open Go.RowKit

/-! ### the plain part -/
theorem write_gone {s : St} (h : s.gone = true) (i : Int) (t : ByteArray) : writeS s i t = s := by
  have : wrong s i ≠ 0 := by unfold wrong; rw [h]; simp
  unfold writeS; rw [if_pos (.inl this)]
theorem sync_gone {s : St} (h : s.gone = true) : syncS s = s := by unfold syncS; rw [if_pos h]
theorem put_lost {s : St} {L : Lay} {n c : Nat} (h : Rest s n c) (hL : L.length = n) (b : Bk) : (s.gone = true → (putS L s b).gone = true) ∧ (putE L s b = 70 → (putS L s b).gone = true) := by
  by_cases hp : preE L s.gone b = 0
  · obtain ⟨h1, h2, h3⟩ := putS_wr hp
    obtain ⟨k1, k2, k3, k4⟩ := preE_zero hp
    rw [h1, h2]
    refine ⟨fun e => (by rw [k2] at e; cases e), fun e => (h.wr_dead (by omega) k1 (by rw [e]; decide)).2⟩
  · obtain ⟨h1, h2, h3⟩ := putS_pre hp
    rw [h1, h2]
    refine ⟨id, fun e => ?_⟩
    have hr : refE b 1 ≠ 70 := by unfold refE; split; split <;> omega; omega
    unfold preE at e
    split at e
    · omega
    · split at e
      · assumption
      · split at e
        · cases e
        · split at e <;> cases e
theorem drop_lost {s : St} {n c : Nat} (h : Rest s n c) (id : Int) : (s.gone = true → (dropS s id).gone = true) ∧ (dropE s id = 70 → (dropS s id).gone = true) := by
  cases hg : s.gone with
  | true =>
    have e2 : dropS s id = s := by unfold dropS; rw [hg]; rfl
    rw [e2]; exact ⟨fun _ => hg, fun _ => hg⟩
  | false =>
    refine ⟨fun e => (by cases e), fun e => ?_⟩
    have hI := h.dk hg id n (Nat.le_refl _)
    have hn := h.len
    by_cases h0 : (dk (readB s) id s n).1 = 0
    · cases hf : (dk (readB s) id s n).2.2 with
      | false =>
        obtain ⟨e1, -⟩ := drop_none hg hn h0 hf
        rw [e1] at e; cases e
      | true =>
        obtain ⟨e1, e2⟩ := drop_some hg hn h0 hf
        rw [e2]
        exact (syncE_dead (by rw [← e1, e]; decide)).2
    · obtain ⟨-, e2⟩ := drop_hit hg hn (Nat.le_refl n) h0
      rw [e2]; exact (hI.bad h0).2
/-- What is known of the two, as plain data. -/
structure Pln (s : St) (L : Lay) (odd : List Nat) (lp lr : Bool) (n c : Nat) : Prop where
  rest : Rest s n c
  len : L.length = n
  few : odd.length ≤ n
  lp : lp = true → s.gone = true
  lr : lr = true → s.gone = true
section
variable {s : St} {L : Lay} {odd : List Nat} {lp lr : Bool} {n c : Nat}
theorem Pln.mono (h : Pln s L odd lp lr n c) {c' : Nat} (hc : c ≤ c') : Pln s L odd lp lr n c' := ⟨h.rest.mono hc, h.len, h.few, h.lp, h.lr⟩
theorem lostP_cases {l : Bool} {e : Int} (h : lostP l e = true) : l = true ∨ e = 70 := by
  unfold lostP at h
  simpa using h
theorem Pln.put (h : Pln s L odd lp lr n c) (hG : GoodL L) (b : Bk) : Pln (putS L s b) (putY L s b) odd (lostP lp (putE L s b)) (lostP lr (putE L s b)) n (c + 4) := by
  obtain ⟨h1, h2⟩ := put_lost h.rest h.len b
  refine ⟨h.rest.put h.len b, by rw [(putY_good hG s b).2]; exact h.len, h.few, fun e => ?_, fun e => ?_⟩
  · rcases lostP_cases e with e | e
    · exact h1 (h.lp e)
    · exact h2 e
  · rcases lostP_cases e with e | e
    · exact h1 (h.lr e)
    · exact h2 e
theorem Pln.drop (h : Pln s L odd lp lr n c) (hG : GoodL L) (id : Int) : Pln (dropS s id) (dropY L s id) odd lp (lostP lr (dropE s id)) n (c + n + 1) := by
  obtain ⟨h1, h2⟩ := drop_lost h.rest id
  refine ⟨h.rest.drop id, by rw [(dropY_good hG s id).2]; exact h.len, h.few, fun e => h1 (h.lp e), fun e => ?_⟩
  rcases lostP_cases e with e | e
  · exact h1 (h.lr e)
  · exact h2 e
theorem Pln.cut (h : Pln s L odd lp lr n c) {k : Int} {keep : Nat} (hk : k < 9223372036854775808) (hkp : keep < 18446744073709551616) : Pln (cut s k keep) L odd lp lr n c :=
  ⟨h.rest.cut hk hkp, h.len, h.few, h.lp, h.lr⟩
theorem Pln.wrote (h : Pln s L odd lp lr n c) (i : Int) (t : ByteArray) : Pln (syncS (writeS s i t)) L odd lp lr n (c + 2) := by
  have h1 := h.rest
  refine ⟨⟨(h1.good.write i t).sync, ((still_of h1.wait).write i t).sync, by rw [sync_len, write_len]; exact h1.len, ?_⟩, h.len, h.few, fun e => ?_, fun e => ?_⟩
  · have := write_n s i t
    have := sync_n (writeS s i t)
    have := h1.few
    omega
  · have hg := h.lp e; rw [write_gone hg, sync_gone hg]; exact hg
  · have hg := h.lr e; rw [write_gone hg, sync_gone hg]; exact hg
theorem Pln.opened (h : Rest s n c) : Pln s (scan (readB s) n n) (odds (readB s) n) false false n c :=
  ⟨h, scan_length _ _ _, odds_le _ _, fun e => (by cases e), fun e => (by cases e)⟩
theorem Pln.fresh (k : Int) : Pln (fresh k) (List.replicate (size0 k) none) [] false false (size0 k) 0 :=
  ⟨fresh_rest k, by simp, by simp, fun e => (by cases e), fun e => (by cases e)⟩
end

/-! ### the two -/
def Duo (w0 w : World) (sb mb pb : Nat) (s : St) (L : Lay) (odd : List Nat) (lost : Bool) (rb rp : Nat) (s' : St) (L' : Lay) (odd' : List Nat) (lost' : Bool) (O : Nat → Prop) : Prop :=
  ∃ F G, SF w sb mb pb s L odd lost F ∧ RSF w rb rp s' L' odd' lost' G ∧ (∀ k, F k → ¬ G k) ∧ (∀ k, F k → w0.heap.size ≤ k) ∧ (∀ k, G k → w0.heap.size ≤ k) ∧ Below w0.heap.size w0 w ∧ ∀ k, O k → ¬ F k ∧ ¬ G k ∧ k < w.heap.size
section
variable {w0 w w' : World} {sb mb pb : Nat} {s : St} {L : Lay} {odd : List Nat} {lost : Bool} {rb rp : Nat} {s' : St} {L' : Lay} {odd' : List Nat} {lost' : Bool} {O : Nat → Prop}
theorem Duo.bel (h : Duo w0 w sb mb pb s L odd lost rb rp s' L' odd' lost' O) : Below w0.heap.size w0 w := by obtain ⟨F, G, h1, h2, h3, h4, h5, h6, h7⟩ := h; exact h6
theorem Duo.good (h : Duo w0 w sb mb pb s L odd lost rb rp s' L' odd' lost' O) : GoodL L := by obtain ⟨F, G, h1, h2, h3, h4, h5, h6, h7⟩ := h; exact h1.good
theorem Duo.sf (h : Duo w0 w sb mb pb s L odd lost rb rp s' L' odd' lost' O) : ∃ F, SF w sb mb pb s L odd lost F := by obtain ⟨F, G, h1, h2, h3, h4, h5, h6, h7⟩ := h; exact ⟨F, h1⟩
theorem Duo.rsf (h : Duo w0 w sb mb pb s L odd lost rb rp s' L' odd' lost' O) : ∃ G, RSF w rb rp s' L' odd' lost' G := by obtain ⟨F, G, h1, h2, h3, h4, h5, h6, h7⟩ := h; exact ⟨G, h2⟩
theorem Duo.less {O' : Nat → Prop} (h : Duo w0 w sb mb pb s L odd lost rb rp s' L' odd' lost' O) (hO : ∀ k, O' k → O k) : Duo w0 w sb mb pb s L odd lost rb rp s' L' odd' lost' O' := by
  obtain ⟨F, G, h1, h2, h3, h4, h5, h6, h7⟩ := h
  exact ⟨F, G, h1, h2, h3, h4, h5, h6, fun k hk => h7 k (hO k hk)⟩
theorem Duo.below (h : Duo w0 w sb mb pb s L odd lost rb rp s' L' odd' lost' O) (hb : Below w.heap.size w w') : Duo w0 w' sb mb pb s L odd lost rb rp s' L' odd' lost' O ∧ Kept O w w' := by
  obtain ⟨F, G, h1, h2, h3, h4, h5, h6, h7⟩ := h
  exact ⟨⟨F, G, h1.below hb, h2.below hb, h3, h4, h5, h6.trans (hb.mono h6.size), fun k hk => ⟨(h7 k hk).1, (h7 k hk).2.1, Nat.lt_of_lt_of_le (h7 k hk).2.2 hb.size⟩⟩, fun k hk => hb.block k (h7 k hk).2.2⟩
theorem Duo.news (h : Duo w0 w sb mb pb s L odd lost rb rp s' L' odd' lost' O) (hb : Below w.heap.size w w') : Duo w0 w' sb mb pb s L odd lost rb rp s' L' odd' lost' (fun k => O k ∨ (w.heap.size ≤ k ∧ k < w'.heap.size)) := by
  obtain ⟨F, G, h1, h2, h3, h4, h5, h6, h7⟩ := h
  refine ⟨F, G, h1.below hb, h2.below hb, h3, h4, h5, h6.trans (hb.mono h6.size), fun k hk => ?_⟩
  rcases hk with hk | ⟨k1, k2⟩
  · exact ⟨(h7 k hk).1, (h7 k hk).2.1, Nat.lt_of_lt_of_le (h7 k hk).2.2 hb.size⟩
  · exact ⟨fun hf => by have := h1.lt k hf; omega, fun hf => by have := h2.lt k hf; omega, k2⟩
/-- The package's shelf, or its plate alone, turns. -/
theorem Duo.p (h : Duo w0 w sb mb pb s L odd lost rb rp s' L' odd' lost' O) (hT : Tab w0) : ∃ F Fp, SF w sb mb pb s L odd lost F ∧ PB w pb s Fp ∧ ¬ F 0 ∧ ¬ Fp 0 ∧
    (∀ w' s2, Goes Fp w w' (PB w' pb s2) → Duo w0 w' sb mb pb s2 L odd lost rb rp s' L' odd' lost' O ∧ Kept O w w') ∧
    (∀ w' sb2 mb2 s2 L2 odd2 lost2, Goes F w w' (SF w' sb2 mb2 pb s2 L2 odd2 lost2) → Duo w0 w' sb2 mb2 pb s2 L2 odd2 lost2 rb rp s' L' odd' lost' O ∧ Kept O w w') ∧
    (∀ w' sb2 mb2 s2 L2 odd2 lost2, Goes Fp w w' (SF w' sb2 mb2 pb s2 L2 odd2 lost2) → Duo w0 w' sb2 mb2 pb s2 L2 odd2 lost2 rb rp s' L' odd' lost' O ∧ Kept O w w') := by
  obtain ⟨F, G, h1, h2, h3, h4, h5, h6, h7⟩ := h
  have hsub : ∃ Fp, PB w pb s Fp ∧ (∀ k, Fp k → F k) ∧ (∀ w' s2, Goes Fp w w' (PB w' pb s2) → Goes F w w' (SF w' sb mb pb s2 L odd lost)) := by
    have h1' := h1
    obtain ⟨Fp, vb, k1, k2, k3, k4⟩ := h1
    obtain ⟨Fp', q1, q2⟩ := h1'.pl
    exact ⟨Fp, k1, fun k hk => (k4 k).2 (.inl hk), fun w' s2 ⟨F', e1, e2, e3⟩ => by
      refine ⟨fun k => F' k ∨ Ow sb mb vb k, ⟨F', vb, e1, k2.kept fun k ho => e3.block k (k2.lt k ho) (fun hf => k3 k hf ho), fun k hf ho => ?_, fun k => Iff.rfl⟩, fun k hk => ?_, ?_⟩
      · rcases e2 k hf with h | h
        · exact k3 k h ho
        · have := k2.lt k ho; omega
      · rcases hk with hk | hk
        · rcases e2 k hk with h | h
          · exact .inl ((k4 k).2 (.inl h))
          · exact .inr h
        · exact .inl ((k4 k).2 (.inr hk))
      · exact ⟨e3.os, e3.tape, e3.output, e3.size, fun k hk hn => e3.block k hk fun hf => hn ((k4 k).2 (.inl hf))⟩⟩
  obtain ⟨Fp, hP, hs, hg⟩ := hsub
  have hh : (0 : Nat) < w0.heap.size := World.block_lt_of_cell? w0 _ (hT 0 (by decide))
  have core : ∀ (E : Nat → Prop), (∀ k, E k → F k) → ∀ w' sb2 mb2 s2 L2 odd2 lost2, Goes E w w' (SF w' sb2 mb2 pb s2 L2 odd2 lost2) → Duo w0 w' sb2 mb2 pb s2 L2 odd2 lost2 rb rp s' L' odd' lost' O ∧ Kept O w w' := by
    intro E hE w' sb2 mb2 s2 L2 odd2 lost2 ⟨F', q1, q2, q3⟩
    refine ⟨⟨F', G, q1, h2.keeps q3 fun k hk he => h3 k (hE k he) hk, fun k hk hg => ?_, fun k hk => ?_, h5, q3.below h6 h6.size (fun k hk => h4 k (hE k hk)), fun k hk => ⟨fun hf => ?_, (h7 k hk).2.1, Nat.lt_of_lt_of_le (h7 k hk).2.2 q3.size⟩⟩, fun k hk => q3.block k (h7 k hk).2.2 fun he => (h7 k hk).1 (hE k he)⟩
    · rcases q2 k hk with h | h
      · exact h3 k (hE k h) hg
      · have := h2.lt k hg; omega
    · rcases q2 k hk with h | h
      · exact h4 k (hE k h)
      · exact Nat.le_trans h6.size h
    · rcases q2 k hf with h | h
      · exact (h7 k hk).1 (hE k h)
      · have := (h7 k hk).2.2; omega
  exact ⟨F, Fp, h1, hP, fun e => by have := h4 _ e; omega, fun e => by have := h4 _ (hs _ e); omega, fun w' s2 k => core F (fun _ h => h) _ _ _ _ _ _ _ (hg w' s2 k), core F (fun _ h => h), core Fp hs⟩
/-- The document's own, or its plate alone, turns. -/
theorem Duo.r (h : Duo w0 w sb mb pb s L odd lost rb rp s' L' odd' lost' O) : ∃ G Gp, RSF w rb rp s' L' odd' lost' G ∧ RB w rp s' Gp ∧
    (∀ w' s2, Goes Gp w w' (RB w' rp s2) → Duo w0 w' sb mb pb s L odd lost rb rp s2 L' odd' lost' O ∧ Kept O w w') ∧
    (∀ w' rb2 s2 L2 odd2 lost2, Goes G w w' (RSF w' rb2 rp s2 L2 odd2 lost2) → Duo w0 w' sb mb pb s L odd lost rb2 rp s2 L2 odd2 lost2 O ∧ Kept O w w') ∧
    (∀ w' rb2 s2 L2 odd2 lost2, Goes Gp w w' (RSF w' rb2 rp s2 L2 odd2 lost2) → Duo w0 w' sb mb pb s L odd lost rb2 rp s2 L2 odd2 lost2 O ∧ Kept O w w') := by
  obtain ⟨F, G, h1, h2, h3, h4, h5, h6, h7⟩ := h
  have hsub : ∃ Gp, RB w rp s' Gp ∧ (∀ k, Gp k → G k) ∧ (∀ w' s2, Goes Gp w w' (RB w' rp s2) → Goes G w w' (RSF w' rb rp s2 L' odd' lost')) := by
    obtain ⟨Gp, vo, g, k1, k2, k3, k4⟩ := h2
    exact ⟨Gp, k1, fun k hk => (k4 k).2 (.inl hk), fun w' s2 ⟨F', e1, e2, e3⟩ => by
      refine ⟨fun k => F' k ∨ Or9 rb g vo k, ⟨F', vo, g, e1, k2.kept fun k ho => e3.block k (k2.lt k ho) (fun hf => k3 k hf ho), fun k hf ho => ?_, fun k => Iff.rfl⟩, fun k hk => ?_, ?_⟩
      · rcases e2 k hf with h | h
        · exact k3 k h ho
        · have := k2.lt k ho; omega
      · rcases hk with hk | hk
        · rcases e2 k hk with h | h
          · exact .inl ((k4 k).2 (.inl h))
          · exact .inr h
        · exact .inl ((k4 k).2 (.inr hk))
      · exact ⟨e3.os, e3.tape, e3.output, e3.size, fun k hk hn => e3.block k hk fun hf => hn ((k4 k).2 (.inl hf))⟩⟩
  obtain ⟨Gp, hP, hs, hg⟩ := hsub
  have core : ∀ (E : Nat → Prop), (∀ k, E k → G k) → ∀ w' rb2 s2 L2 odd2 lost2, Goes E w w' (RSF w' rb2 rp s2 L2 odd2 lost2) → Duo w0 w' sb mb pb s L odd lost rb2 rp s2 L2 odd2 lost2 O ∧ Kept O w w' := by
    intro E hE w' rb2 s2 L2 odd2 lost2 ⟨F', q1, q2, q3⟩
    refine ⟨⟨F, F', h1.keeps q3 fun k hk he => h3 k hk (hE k he), q1, fun k hf hk => ?_, h4, fun k hk => ?_, q3.below h6 h6.size (fun k hk => h5 k (hE k hk)), fun k hk => ⟨(h7 k hk).1, fun hf => ?_, Nat.lt_of_lt_of_le (h7 k hk).2.2 q3.size⟩⟩, fun k hk => q3.block k (h7 k hk).2.2 fun he => (h7 k hk).2.1 (hE k he)⟩
    · rcases q2 k hk with h | h
      · exact h3 k hf (hE k h)
      · have := h1.lt k hf; omega
    · rcases q2 k hk with h | h
      · exact h5 k (hE k h)
      · exact Nat.le_trans h6.size h
    · rcases q2 k hf with h | h
      · exact (h7 k hk).2.1 (hE k h)
      · have := (h7 k hk).2.2; omega
  exact ⟨G, Gp, h2, hP, fun w' s2 k => core G (fun _ h => h) _ _ _ _ _ _ (hg w' s2 k), core G (fun _ h => h), core Gp hs⟩
end
end Go.Proofs.YtacdbfaoeioflaaGreatDoor

namespace Go.Proofs.YtacdbfaoeioflaaGreatDoor
open Go.RowKit

section
variable {w0 w w' : World} {sb mb pb : Nat} {s : St} {L : Lay} {odd : List Nat} {lost : Bool} {rb rp : Nat} {s' : St} {L' : Lay} {odd' : List Nat} {lost' : Bool} {O : Nat → Prop}
theorem duo_put (h : Duo w0 w sb mb pb s L odd lost rb rp s' L' odd' lost' O) (hT : Tab w0) {n k : Nat} (hR : Rest s n k) (hk : k ≤ 900000) (hlost : lost = true → s.gone = true) (hL : L.length = n) {b : Bk} (hid : i64 b.id) :
    Calls Tryz.prog 13 #[.pointer (some ⟨sb, 0, none⟩), b.val] w fun e w' => e = .returned (.int .i64 (putE L s b)) ∧ Duo w0 w' sb mb pb (putS L s b) (putY L s b) odd (lostP lost (putE L s b)) rb rp s' L' odd' lost' O ∧ Kept O w w' := by
  obtain ⟨F, Fp, h1, h2, h3, h4, k1, k2, k3⟩ := h.p hT
  exact (put_any h1 (hT.below h.bel) h3 hR hk hlost hL hid).mono fun e w' ⟨he, hg⟩ => ⟨he, k2 _ _ _ _ _ _ _ hg⟩
theorem duo_rput (h : Duo w0 w sb mb pb s L odd lost rb rp s' L' odd' lost' O) {n k : Nat} (hR : Rest s' n k) (hk : k ≤ 900000) (hlost : lost' = true → s'.gone = true) (hL : L'.length = n) (b : Bk) :
    Calls Tryz.prog 14 #[.pointer (some ⟨rb, 0, none⟩), b.val] w fun e w' => e = .returned (.int .i64 (putE L' s' b)) ∧ Duo w0 w' sb mb pb s L odd lost rb rp (putS L' s' b) (putY L' s' b) odd' (lostP lost' (putE L' s' b)) O ∧ Kept O w w' := by
  obtain ⟨G, Gp, h1, h2, k1, k2, k3⟩ := h.r
  exact (rput_any h1 hR hk hlost hL b).mono fun e w' ⟨he, hg⟩ => ⟨he, k2 _ _ _ _ _ _ hg⟩
theorem duo_drop (h : Duo w0 w sb mb pb s L odd lost rb rp s' L' odd' lost' O) (hT : Tab w0) {n k : Nat} (hR : Rest s n k) (hk : k ≤ 900000) (hlost : lost = true → s.gone = true) {id : Int} (hid : i64 id) :
    Calls Tryz.prog 21 #[.pointer (some ⟨sb, 0, none⟩), .int .i64 id] w fun e w' => e = .returned (.int .i64 (dropE s id)) ∧ Duo w0 w' sb mb pb (dropS s id) (dropY L s id) odd lost rb rp s' L' odd' lost' O ∧ Kept O w w' := by
  obtain ⟨F, Fp, h1, h2, h3, h4, k1, k2, k3⟩ := h.p hT
  exact (sdrop_any h1 (hT.below h.bel) h3 hR hk hlost hid).mono fun e w' ⟨he, hg⟩ => ⟨he, k2 _ _ _ _ _ _ _ hg⟩
theorem duo_rdrop (h : Duo w0 w sb mb pb s L odd lost rb rp s' L' odd' lost' O) {n k : Nat} (hR : Rest s' n k) (hk : k ≤ 900000) (hlost : lost' = true → s'.gone = true) (hL : L'.length = n) (id : Int) :
    Calls Tryz.prog 22 #[.pointer (some ⟨rb, 0, none⟩), .int .i64 id] w fun e w' => e = .returned (.int .i64 (dropE s' id)) ∧ Duo w0 w' sb mb pb s L odd lost rb rp (dropS s' id) (dropY L' s' id) odd' (lostP lost' (dropE s' id)) O ∧ Kept O w w' := by
  obtain ⟨G, Gp, h1, h2, k1, k2, k3⟩ := h.r
  exact (rdrop_any h1 hR hk hlost hL id).mono fun e w' ⟨he, hg⟩ => ⟨he, k2 _ _ _ _ _ _ hg⟩
theorem duo_cut (h : Duo w0 w sb mb pb s L odd lost rb rp s' L' odd' lost' O) (hT : Tab w0) {k : Int} {keep : Nat} (hk : k < 9223372036854775808) (hkp : keep < 18446744073709551616) :
    Calls Tryz.prog 15 #[.pointer (some ⟨pb, 0, none⟩), .int .i64 k, .int .u64 keep] w fun e w' => e = .returned (.tuple #[]) ∧ Duo w0 w' sb mb pb (cut s k keep) L odd lost rb rp s' L' odd' lost' O ∧ Kept O w w' := by
  obtain ⟨F, Fp, h1, h2, h3, h4, k1, k2, k3⟩ := h.p hT
  exact (cut_any pb s Fp k keep w h2 hk hkp).mono fun e w' ⟨he, hg⟩ => ⟨he, k1 _ _ hg⟩
theorem duo_rcut (h : Duo w0 w sb mb pb s L odd lost rb rp s' L' odd' lost' O) (k : Int) (keep : Nat) :
    Calls Tryz.prog 16 #[.pointer (some ⟨rp, 0, none⟩), .int .i64 k, .int .u64 keep] w fun e w' => e = .returned (.tuple #[]) ∧ Duo w0 w' sb mb pb s L odd lost rb rp (cut s' k keep) L' odd' lost' O ∧ Kept O w w' := by
  obtain ⟨G, Gp, h1, h2, k1, k2, k3⟩ := h.r
  exact (rcut_any rp s' Gp k keep w h2).mono fun e w' ⟨he, hg⟩ => ⟨he, k1 _ _ hg⟩
theorem duo_crash (h : Duo w0 w sb mb pb s L odd lost rb rp s' L' odd' lost' O) (hT : Tab w0) (hG : Good s) (hw : s.wait.length ≤ 1000) {keep : Nat} (hkp : keep < 18446744073709551616) :
    Calls Tryz.prog 23 #[.pointer (some ⟨pb, 0, none⟩), .int .u64 keep] w fun e w' => e = .returned (.tuple #[]) ∧ Duo w0 w' sb mb pb (crash s keep) L odd lost rb rp s' L' odd' lost' O ∧ Kept O w w' := by
  obtain ⟨F, Fp, h1, h2, h3, h4, k1, k2, k3⟩ := h.p hT
  exact (crash_any pb s Fp keep w h2 hG hw hkp).mono fun e w' ⟨he, hg⟩ => ⟨he, k1 _ _ hg⟩
theorem duo_rcrash (h : Duo w0 w sb mb pb s L odd lost rb rp s' L' odd' lost' O) (hG : Good s') (keep : Nat) :
    Calls Tryz.prog 24 #[.pointer (some ⟨rp, 0, none⟩), .int .u64 keep] w fun e w' => e = .returned (.tuple #[]) ∧ Duo w0 w' sb mb pb s L odd lost rb rp (crash s' keep) L' odd' lost' O ∧ Kept O w w' := by
  obtain ⟨G, Gp, h1, h2, k1, k2, k3⟩ := h.r
  exact (rcrash_any rp s' Gp keep w h2 hG).mono fun e w' ⟨he, hg⟩ => ⟨he, k1 _ _ hg⟩
theorem duo_power (h : Duo w0 w sb mb pb s L odd lost rb rp s' L' odd' lost' O) (hT : Tab w0) :
    Calls Tryz.prog 25 #[.pointer (some ⟨pb, 0, none⟩)] w fun e w' => e = .returned (.tuple #[]) ∧ Duo w0 w' sb mb pb (power s) L odd lost rb rp s' L' odd' lost' O ∧ Kept O w w' := by
  obtain ⟨F, Fp, h1, h2, h3, h4, k1, k2, k3⟩ := h.p hT
  exact (power_any pb s Fp w h2).mono fun e w' ⟨he, hg⟩ => ⟨he, k1 _ _ hg⟩
theorem duo_rpower (h : Duo w0 w sb mb pb s L odd lost rb rp s' L' odd' lost' O) :
    Calls Tryz.prog 26 #[.pointer (some ⟨rp, 0, none⟩)] w fun e w' => e = .returned (.tuple #[]) ∧ Duo w0 w' sb mb pb s L odd lost rb rp (power s') L' odd' lost' O ∧ Kept O w w' := by
  obtain ⟨G, Gp, h1, h2, k1, k2, k3⟩ := h.r
  exact (rpower_any rp s' Gp w h2).mono fun e w' ⟨he, hg⟩ => ⟨he, k1 _ _ hg⟩
theorem duo_write (h : Duo w0 w sb mb pb s L odd lost rb rp s' L' odd' lost' O) (hT : Tab w0) (hG : Good s) (hn : s.wait.length ≤ 900) (hc : s.n ≤ 1000000) (i : Int) (t : ByteArray) (ht : t.size ≤ 9223372036854775807) :
    Calls Tryz.prog 17 #[.pointer (some ⟨pb, 0, none⟩), .int .i64 i, .string t] w fun e w' => e = .returned (.int .i64 (writeE s i t)) ∧ Duo w0 w' sb mb pb (writeS s i t) L odd lost rb rp s' L' odd' lost' O ∧ Kept O w w' := by
  obtain ⟨F, Fp, h1, h2, h3, h4, k1, k2, k3⟩ := h.p hT
  exact (write_any pb s Fp i t w h2 hG hn hc ht).mono fun e w' ⟨he, hg⟩ => ⟨he, k1 _ _ hg⟩
theorem duo_rwrite (h : Duo w0 w sb mb pb s L odd lost rb rp s' L' odd' lost' O) (hG : Good s') (hn : s'.wait.length ≤ 900) (hc : s'.n ≤ 1000000) (i : Int) (t : ByteArray) (ht : t.size ≤ 9223372036854775807) :
    Calls Tryz.prog 18 #[.pointer (some ⟨rp, 0, none⟩), .int .i64 i, .string t] w fun e w' => e = .returned (.int .i64 (writeE s' i t)) ∧ Duo w0 w' sb mb pb s L odd lost rb rp (writeS s' i t) L' odd' lost' O ∧ Kept O w w' := by
  obtain ⟨G, Gp, h1, h2, k1, k2, k3⟩ := h.r
  exact (rwrite_any rp s' Gp i t w h2 hG hn hc ht).mono fun e w' ⟨he, hg⟩ => ⟨he, k1 _ _ hg⟩
theorem duo_sync (h : Duo w0 w sb mb pb s L odd lost rb rp s' L' odd' lost' O) (hT : Tab w0) (hG : Good s) (hn : s.wait.length ≤ 1000) (hc : s.n ≤ 1000000) :
    Calls Tryz.prog 19 #[.pointer (some ⟨pb, 0, none⟩)] w fun e w' => e = .returned (.int .i64 (syncE s)) ∧ Duo w0 w' sb mb pb (syncS s) L odd lost rb rp s' L' odd' lost' O ∧ Kept O w w' := by
  obtain ⟨F, Fp, h1, h2, h3, h4, k1, k2, k3⟩ := h.p hT
  exact (sync_any pb s Fp w h2 hG hn hc).mono fun e w' ⟨he, hg⟩ => ⟨he, k1 _ _ hg⟩
theorem duo_rsync (h : Duo w0 w sb mb pb s L odd lost rb rp s' L' odd' lost' O) (hG : Good s') (hc : s'.n ≤ 1000000) :
    Calls Tryz.prog 20 #[.pointer (some ⟨rp, 0, none⟩)] w fun e w' => e = .returned (.int .i64 (syncE s')) ∧ Duo w0 w' sb mb pb s L odd lost rb rp (syncS s') L' odd' lost' O ∧ Kept O w w' := by
  obtain ⟨G, Gp, h1, h2, k1, k2, k3⟩ := h.r
  exact (rsync_any rp s' Gp w h2 hG hc).mono fun e w' ⟨he, hg⟩ => ⟨he, k1 _ _ hg⟩
theorem duo_open (h : Duo w0 w sb mb pb s L odd lost rb rp s' L' odd' lost' O) (hT : Tab w0) (hG : Good s) (hgo : s.gone = false) {n : Nat} (hn : s.is.length = n) :
    Calls Tryz.prog 11 #[.pointer (some ⟨pb, 0, none⟩)] w fun e w' => ∃ sb2 mb2 : Nat, e = .returned (.tuple #[.pointer (some ⟨sb2, 0, none⟩), .int .i64 0]) ∧ Duo w0 w' sb2 mb2 pb s (scan (readB s) n n) (odds (readB s) n) false rb rp s' L' odd' lost' O ∧ Kept O w w' := by
  obtain ⟨F, Fp, h1, h2, h3, h4, k1, k2, k3⟩ := h.p hT
  exact (open_yes9 h2 hG hgo hn (hT.below h.bel) h4).mono fun e w' ⟨sb2, mb2, he, hg⟩ => ⟨sb2, mb2, he, k3 _ _ _ _ _ _ _ hg⟩
theorem duo_ropen (h : Duo w0 w sb mb pb s L odd lost rb rp s' L' odd' lost' O) (hG : Good s') (hgo : s'.gone = false) {n : Nat} (hn : s'.is.length = n) :
    Calls Tryz.prog 12 #[.pointer (some ⟨rp, 0, none⟩)] w fun e w' => ∃ rb2 : Nat, e = .returned (.tuple #[.pointer (some ⟨rb2, 0, none⟩), .int .i64 0]) ∧ Duo w0 w' sb mb pb s L odd lost rb2 rp s' (scan (readB s') n n) (odds (readB s') n) false O ∧ Kept O w w' := by
  obtain ⟨G, Gp, h1, h2, k1, k2, k3⟩ := h.r
  exact (ropen_yes h2 hG hgo hn).mono fun e w' ⟨rb2, he, hg⟩ => ⟨rb2, he, k3 _ _ _ _ _ _ hg⟩
theorem duo_shut (h : Duo w0 w sb mb pb s L odd lost rb rp s' L' odd' lost' O) (hT : Tab w0) (hgo : s.gone = true) :
    Calls Tryz.prog 11 #[.pointer (some ⟨pb, 0, none⟩)] w fun e w' => e = .returned (.tuple #[.pointer none, .int .i64 70]) ∧ w = w' := by
  obtain ⟨F, Fp, h1, h2, h3, h4, k1, k2, k3⟩ := h.p hT
  exact open_dead h2 hgo
theorem duo_rshut (h : Duo w0 w sb mb pb s L odd lost rb rp s' L' odd' lost' O) (hgo : s'.gone = true) :
    Calls Tryz.prog 12 #[.pointer (some ⟨rp, 0, none⟩)] w fun e w' => e = .returned (.tuple #[.pointer none, .int .i64 70]) ∧ w = w' := by
  obtain ⟨G, Gp, h1, h2, k1, k2, k3⟩ := h.r
  exact ropen_dead h2 hgo
/-! those that read alone -/
theorem duo_get (h : Duo w0 w sb mb pb s L odd lost rb rp s' L' odd' lost' O) {id : Int} (hid : i64 id) :
    Calls Tryz.prog 27 #[.pointer (some ⟨sb, 0, none⟩), .int .i64 id] w fun e w' => e = .returned (.tuple #[(getB L id).val, .int .i64 (getE L id)]) ∧ Below w.heap.size w w' := by
  obtain ⟨F, h1⟩ := h.sf
  exact get_any h1 hid
theorem duo_rget (h : Duo w0 w sb mb pb s L odd lost rb rp s' L' odd' lost' O) (id : Int) :
    Calls Tryz.prog 28 #[.pointer (some ⟨rb, 0, none⟩), .int .i64 id] w fun e w' => e = .returned (.tuple #[(getB L' id).val, .int .i64 (getE L' id)]) ∧ Below w.heap.size w w' := by
  obtain ⟨G, h1⟩ := h.rsf
  obtain ⟨vo, g, hS, -⟩ := h1.own
  exact rget_row hS id
theorem duo_list (h : Duo w0 w sb mb pb s L odd lost rb rp s' L' odd' lost' O) :
    Calls Tryz.prog 30 #[.pointer (some ⟨sb, 0, none⟩)] w fun e w' => ∃ v, e = .returned v ∧ OwnsB 37 w' w.heap.size v (listL L) ∧ Below w.heap.size w w' := by
  obtain ⟨F, h1⟩ := h.sf
  exact slist_any h1
theorem duo_rlist (h : Duo w0 w sb mb pb s L odd lost rb rp s' L' odd' lost' O) :
    Calls Tryz.prog 31 #[.pointer (some ⟨rb, 0, none⟩)] w fun e w' => ∃ v, e = .returned v ∧ OwnsB 37 w' w.heap.size v (listL L') ∧ Below w.heap.size w w' := by
  obtain ⟨G, h1⟩ := h.rsf
  obtain ⟨vo, g, hS, -⟩ := h1.own
  exact rlist_row hS
theorem duo_free (h : Duo w0 w sb mb pb s L odd lost rb rp s' L' odd' lost' O) {n : Nat} (hn : s.is.length = n) (hl : n ≤ 128) :
    Calls Tryz.prog 32 #[.pointer (some ⟨sb, 0, none⟩)] w fun e w' => e = .returned (.int .i64 ((n : Int) - (cnt L : Int))) ∧ Below w.heap.size w w' := by
  obtain ⟨F, h1⟩ := h.sf
  have := free_any h1 (by omega)
  rwa [hn] at this
theorem duo_rfree (h : Duo w0 w sb mb pb s L odd lost rb rp s' L' odd' lost' O) {n : Nat} (hn : L'.length = n) :
    Calls Tryz.prog 33 #[.pointer (some ⟨rb, 0, none⟩)] w fun e w' => e = .returned (.int .i64 ((n : Int) - (cnt L' : Int))) ∧ Below w.heap.size w w' := by
  obtain ⟨G, h1⟩ := h.rsf
  obtain ⟨vo, g, hS, -⟩ := h1.own
  have := rfree_row hS
  rwa [hn] at this
theorem duo_bad (h : Duo w0 w sb mb pb s L odd lost rb rp s' L' odd' lost' O) (hl : odd.length ≤ 1000) :
    Calls Tryz.prog 35 #[.pointer (some ⟨sb, 0, none⟩)] w fun e w' => ∃ v', e = .returned v' ∧ w'.ownsRow 0 3 1 v' odd.length (odd.map fun i : Nat => Value.int .i64 (i : Int)) ∧ Below w.heap.size w w' := by
  obtain ⟨F, h1⟩ := h.sf
  exact sbad_any h1 hl
theorem duo_calls (h : Duo w0 w sb mb pb s L odd lost rb rp s' L' odd' lost' O) (hT : Tab w0) :
    Calls Tryz.prog 36 #[.pointer (some ⟨pb, 0, none⟩)] w fun e w' => e = .returned (.int .i64 (s.n : Int)) ∧ w = w' := by
  obtain ⟨F, Fp, h1, h2, -⟩ := h.p hT
  exact calls_any pb s Fp w h2
theorem Duo.cells (h : Duo w0 w sb mb pb s L odd lost rb rp s' L' odd' lost' O) : ∃ vo : Value, w.cell? ⟨rb, 2, none⟩ = some vo ∧ w.cell? ⟨rp, 5, none⟩ = some (.int .i64 (s'.n : Int)) ∧ w.ownsRow 0 3 1 vo odd'.length (odd'.map fun i : Nat => Value.int .i64 (i : Int)) := by
  obtain ⟨G, h1⟩ := h.rsf
  obtain ⟨Fp, vo, g, k1, k2, k3, k4⟩ := h1
  obtain ⟨vi, vw, q1, -⟩ := k1
  exact ⟨vo, k2.cells.2.2.1, q1.cells.2.2.2.2.2, k2.bad⟩
/-- The same blocks, in two rows. -/
theorem same9_yes {b1 b2 : Nat} {v1 v2 : Value} {l : List Bk} (h1 : OwnsB 37 w b1 v1 l) (h2 : OwnsB 37 w b2 v2 l) (hl : l.length ≤ 100000) :
    Calls Tryz.prog 29 #[v1, v2] w fun e w' => e = .returned (.bool true) ∧ Below w.heap.size w w' := by
  have := same9_any h1 h2 hl
  rwa [decide_eq_true rfl] at this
end

/-! ### two that are new -/
theorem pl_new {w0 w w' : World} {pb : Nat} {s : St} (hb : Below w0.heap.size w0 w) (h : Goes (fun _ => False) w w' (PB w' pb s)) : ∃ F, PB w' pb s F ∧ (∀ k, F k → w0.heap.size ≤ k) ∧ Below w0.heap.size w0 w' := by
  obtain ⟨F, h1, h2, h3⟩ := h
  refine ⟨F, h1, fun k hk => ?_, h3.below hb hb.size (fun _ h => h.elim)⟩
  rcases h2 k hk with h | h
  · exact h.elim
  · exact Nat.le_trans hb.size h
theorem pl_rnew {w0 w w' : World} {pb rp : Nat} {s s' : St} {F : Nat → Prop} (h1 : PB w pb s F) (hb : Below w0.heap.size w0 w) (h : Goes (fun _ => False) w w' (RB w' rp s')) : ∃ G, PB w' pb s F ∧ RB w' rp s' G ∧ (∀ k, F k → ¬ G k) ∧ (∀ k, G k → w0.heap.size ≤ k) ∧ Below w0.heap.size w0 w' := by
  obtain ⟨G, k1, k2, k3⟩ := h
  refine ⟨G, h1.keeps k3 (fun _ _ h => h), k1, fun k hf hk => ?_, fun k hk => ?_, k3.below hb hb.size (fun _ h => h.elim)⟩
  · rcases k2 k hk with h | h
    · exact h
    · have := h1.lt k hf; omega
  · rcases k2 k hk with h | h
    · exact h.elim
    · exact Nat.le_trans hb.size h
theorem pl_open {w0 w w' : World} {sb mb pb rp : Nat} {s s' : St} {L : Lay} {odd : List Nat} {lost : Bool} {F G : Nat → Prop} (h2 : RB w rp s' G) (h3 : ∀ k, F k → ¬ G k) (h4 : ∀ k, F k → w0.heap.size ≤ k) (hb : Below w0.heap.size w0 w) (h : Goes F w w' (SF w' sb mb pb s L odd lost)) :
    ∃ F', SF w' sb mb pb s L odd lost F' ∧ RB w' rp s' G ∧ (∀ k, F' k → ¬ G k) ∧ (∀ k, F' k → w0.heap.size ≤ k) ∧ Below w0.heap.size w0 w' := by
  obtain ⟨F', k1, k2, k3⟩ := h
  refine ⟨F', k1, h2.keeps k3 fun k hk hf => h3 k hf hk, fun k hf hk => ?_, fun k hk => ?_, k3.below hb hb.size h4⟩
  · rcases k2 k hf with h | h
    · exact h3 k h hk
    · have := h2.lt k hk; omega
  · rcases k2 k hk with h | h
    · exact h4 k h
    · exact Nat.le_trans hb.size h
theorem pl_ropen {w0 w w' : World} {sb mb pb rb rp : Nat} {s s' : St} {L L' : Lay} {odd odd' : List Nat} {lost lost' : Bool} {F G : Nat → Prop} (h1 : SF w sb mb pb s L odd lost F) (h3 : ∀ k, F k → ¬ G k) (h4 : ∀ k, F k → w0.heap.size ≤ k) (h5 : ∀ k, G k → w0.heap.size ≤ k) (hb : Below w0.heap.size w0 w) (h : Goes G w w' (RSF w' rb rp s' L' odd' lost')) :
    Duo w0 w' sb mb pb s L odd lost rb rp s' L' odd' lost' (fun _ => False) := by
  obtain ⟨G', k1, k2, k3⟩ := h
  refine ⟨F, G', h1.keeps k3 h3, k1, fun k hf hk => ?_, h4, fun k hk => ?_, k3.below hb hb.size h5, fun _ h => h.elim⟩
  · rcases k2 k hk with h | h
    · exact h3 k hf h
    · have := h1.lt k hf; omega
  · rcases k2 k hk with h | h
    · exact h5 k h
    · exact Nat.le_trans hb.size h
end Go.Proofs.YtacdbfaoeioflaaGreatDoor
