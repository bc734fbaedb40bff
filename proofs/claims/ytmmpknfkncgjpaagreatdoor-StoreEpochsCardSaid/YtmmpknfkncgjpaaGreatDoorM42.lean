/-
  What lies on a plate behind any calls of a shelf, wherever the power goes in them: each marked sector is a record, no two of one block have one version; while there is power the sectors are as the layout says.

  Things in memory, each with the blocks that it has: two side by side; a thing that lies beside blocks of one's own, all of it made since a world of old.

  A server of the package as cells: its shelf and plate, its struct, its two maps.
-/
import Derived.Test.YtmmpknfkncgjpaaGreatDoorM23
import Derived.Test.YtmmpknfkncgjpaaGreatDoorM34
import Derived.Test.YtmmpknfkncgjpaaGreatDoorM32
import Derived.Test.YtmmpknfkncgjpaaGreatDoorM38
import Derived.Test.YtmmpknfkncgjpaaGreatDoorM41
namespace Go.Proofs.YtmmpknfkncgjpaaGreatDoor
open Go.RowKit

/-! ### a Drop that is cut off -/
/-- A sector is as it was, or its mark is taken. -/
def Qs (T : Nat → List UInt8) (j : Nat) (x : List UInt8) : Prop := x = T j ∨ x = 0 :: (T j).drop 1
theorem Qs.mix {T : Nat → List UInt8} {j : Nat} {x : List UInt8} (h : Qs T j x) (q : Nat) : Qs T j (mix q (0 :: (T j).drop 1) x) := by
  cases q with
  | zero => simpa [Go.Proofs.YtmmpknfkncgjpaaGreatDoor.mix] using h
  | succ q =>
    right
    unfold Go.Proofs.YtmmpknfkncgjpaaGreatDoor.mix
    rcases h with rfl | rfl
    · have e : (T j).drop (q + 1) = ((T j).drop 1).drop q := by rw [List.drop_drop, Nat.add_comm]
      rw [List.take_succ_cons, List.cons_append, e, List.take_append_drop]
    · rw [List.take_succ_cons, List.drop_succ_cons, List.cons_append, List.take_append_drop]
structure Un (T : Nat → List UInt8) (s : St) : Prop where
  wt : ∀ w ∈ s.wait, w.b = 0 :: (T w.i).drop 1
  is_ : ∀ j, Qs T j (s.is.getD j [])
theorem Un.done {T : Nat → List UInt8} {ws : List Wr} {is : List (List UInt8)} (hw : ∀ w ∈ ws, w.b = 0 :: (T w.i).drop 1) (hi : ∀ j, Qs T j (is.getD j [])) (f : Nat → Nat) (k : Nat) : ∀ j, Qs T j ((Go.Proofs.YtmmpknfkncgjpaaGreatDoor.done f ws is k).getD j []) := by
  induction k with
  | zero => exact hi
  | succ k ih =>
    intro j
    cases hk : ws[k]? with
    | none =>
      have e : Go.Proofs.YtmmpknfkncgjpaaGreatDoor.done f ws is (k + 1) = Go.Proofs.YtmmpknfkncgjpaaGreatDoor.done f ws is k := by rw [Go.Proofs.YtmmpknfkncgjpaaGreatDoor.done, hk]
      rw [e]; exact ih j
    | some w =>
      rw [done_succ hk]
      by_cases hl : w.i < (Go.Proofs.YtmmpknfkncgjpaaGreatDoor.done f ws is k).length
      · rw [getD_set hl]
        by_cases e : j = w.i
        · subst e
          rw [if_pos rfl, hw w (List.mem_of_getElem? hk)]
          exact (ih w.i).mix _
        · rw [if_neg e]; exact ih j
      · rw [List.set_eq_of_length_le (by omega)]; exact ih j
theorem Un.crash {T : Nat → List UInt8} {s : St} (h : Un T s) (keep : Nat) : Un T (crash s keep) := by
  unfold Go.Proofs.YtmmpknfkncgjpaaGreatDoor.crash
  split
  · exact h
  · exact ⟨fun w hw => by simp at hw, Un.done h.wt h.is_ _ _⟩
theorem Un.count {T : Nat → List UInt8} {s : St} (h : Un T s) : Un T (count s) := by
  unfold Go.Proofs.YtmmpknfkncgjpaaGreatDoor.count
  split
  · exact ⟨h.wt, h.is_⟩
  · split
    · exact Un.crash (s := { s with n := s.n + 1, left := 0 }) ⟨h.wt, h.is_⟩ _
    · exact ⟨h.wt, h.is_⟩
theorem Un.write {T : Nat → List UInt8} {s : St} (h : Un T s) {k : Nat} (hk : (T k).length = 32) : Un T (writeS s (k : Int) (unm (T k))) := by
  unfold writeS
  split
  · exact h
  · refine Un.count (s := add s (k : Int) (unm (T k))) ⟨fun w hw => ?_, h.is_⟩
    have hw' : w ∈ s.wait ++ [⟨((k : Int)).toNat, pad (unm (T k))⟩] := hw
    rcases List.mem_append.1 hw' with hw | hw
    · exact h.wt w hw
    · rw [List.mem_singleton.1 hw]
      show pad (unm (T k)) = 0 :: (T ((k : Int)).toNat).drop 1
      rw [pad_full (unm_size hk), Int.toNat_natCast]
      unfold unm
      rw [str_toList]
theorem Un.sync {T : Nat → List UInt8} {s : St} (h : Un T s) : Un T (syncS s) := by
  unfold syncS
  split
  · exact h
  · split
    · exact h.count
    · exact ⟨fun w hw => by simp [whole] at hw, Un.done h.count.wt h.count.is_ _ _⟩
theorem Un.read {T : Nat → List UInt8} {s : St} (h : Un T s) (j : Nat) : Qs T j (readB s j) := by
  unfold readB
  generalize hn : s.wait.length = k
  clear hn
  induction k with
  | zero => exact h.is_ j
  | succ k ih =>
    unfold seen
    split
    · exact ih
    · rename_i w hw
      split
      · rename_i e
        right
        rw [h.wt w (List.mem_of_getElem? hw), e]
      · exact ih
theorem Un.dk {T : Nat → List UInt8} {s : St} (h : Un T s) {n : Nat} (hT : ∀ k, k < n → (T k).length = 32) (id : Int) : ∀ k, k ≤ n → Un T (dk T id s k).2.1 := by
  intro k
  induction k with
  | zero => intro _; exact h
  | succ k ih =>
    intro hk
    have h1 := ih (by omega)
    rw [Go.Proofs.YtmmpknfkncgjpaaGreatDoor.dk]
    split
    · exact h1
    · split
      · exact h1
      · split
        · exact h1.write (hT k (by omega))
        · exact h1
theorem drop_un {s : St} {n c : Nat} (h : Rest s n c) (id : Int) (j : Nat) : Qs (readB s) j (readB (dropS s id) j) := by
  have h0 : Un (readB s) s := ⟨fun w hw => (by rw [h.wait] at hw; cases hw), fun j => .inl (by rw [readB_rest h.wait])⟩
  have h1 := h0.dk (n := n) (fun k hk => readB_length h.good (by rw [h.len]; exact hk)) id n (Nat.le_refl _)
  refine Un.read ?_ j
  unfold dropS
  rw [h.len]
  split
  · exact h0
  · split
    · exact h1
    · split
      · exact h1
      · exact h1.sync

/-! ### what holds of the sectors -/
/-- Each marked sector is a record; no two of one block have one version. -/
structure Inv13 (f : Nat → List UInt8) (n : Nat) : Prop where
  know : ∀ i, i < n → mrk (f i) → ∃ b, parse (str (f i)) = some b
  dist : ∀ i j b c, i < n → j < n → parse (str (f i)) = some b → parse (str (f j)) = some c → b.id = c.id → b.ver = c.ver → i = j
theorem Inv13.fit {f : Nat → List UInt8} {n : Nat} (hn : n ≤ 128) (h : Inv13 f n) : Fit f (scan f n n) := by
  obtain ⟨h1, h2, h3⟩ := scan_good (f := f) hn n (Nat.le_refl _)
  refine ⟨h1, fun i b hb => (parse_some (h2 i b hb).2).2.symm, fun i hi => ?_⟩
  have hin : i < n := by have := hi.lt; rwa [scan_length] at this
  cases hp : parse (str (f i)) with
  | none =>
    refine .inl ⟨rfl, fun hm => ?_⟩
    obtain ⟨b, hb⟩ := h.know i hin hm
    rw [hp] at hb; cases hb
  | some c =>
    obtain ⟨j, d, hd, e1, e2⟩ := h3 i c hin hp
    refine .inr ⟨c, j, d, (parse_some hp).1, (parse_some hp).2.symm, hd, e1, ?_⟩
    rcases Int.lt_or_eq_of_le e2 with e3 | e3
    · exact e3
    · have := h.dist i j c d hin (h2 j d hd).1 hp (h2 j d hd).2 e1.symm e3
      subst this
      exact (hi.not hd).elim
theorem Inv13.same {f g : Nat → List UInt8} {n : Nat} (h : Inv13 f n) (hg : ∀ j, j < n → g j = f j) : Inv13 g n :=
  ⟨fun i hi hm => by rw [hg i hi] at hm ⊢; exact h.know i hi hm, fun i j b c hi hj hb hc => by rw [hg i hi] at hb; rw [hg j hj] at hc; exact h.dist i j b c hi hj hb hc⟩
/-- Marks are taken. -/
theorem Inv13.less {f g : Nat → List UInt8} {n : Nat} (h : Inv13 f n) (hg : ∀ j, j < n → g j = f j ∨ ¬ mrk (g j)) : Inv13 g n := by
  have hp : ∀ j b, j < n → parse (str (g j)) = some b → parse (str (f j)) = some b := fun j b hj hb => by
    rcases hg j hj with e | e
    · rw [← e]; exact hb
    · rw [parse_head e] at hb; cases hb
  refine ⟨fun i hi hm => ?_, fun i j b c hi hj hb hc => h.dist i j b c hi hj (hp i b hi hb) (hp j c hj hc)⟩
  rcases hg i hi with e | e
  · rw [e] at hm ⊢; exact h.know i hi hm
  · exact absurd hm e
theorem Fit.older {f : Nat → List UInt8} {L : Lay} (h : Fit f L) {b : Bk} (hn : newer L b = true) {j : Nat} {c : Bk} (hj : j < L.length) (hc : parse (str (f j)) = some c) (he : c.id = b.id) : c.ver < b.ver := by
  have hn' := (newer_iff h.good).1 hn
  cases hx : L[j] with
  | some d =>
    have hd : At L j d := by unfold At; rw [List.getElem?_eq_getElem hj, hx]
    have := parse_of (h.good.ok j d hd) (h.on j d hd).symm
    rw [hc] at this
    cases this
    exact hn' j c hd he
  | none =>
    have hf : Fre L j := by unfold Fre; rw [List.getElem?_eq_getElem hj, hx]
    rcases h.off j hf with ⟨h1, -⟩ | ⟨c', k, d, hc', e3, hd, e4, e5⟩
    · rw [hc] at h1; cases h1
    · rw [parse_of hc' e3.symm] at hc
      cases hc
      have := hn' k d hd (e4.trans he)
      omega
theorem Inv13.put {f g : Nat → List UInt8} {L : Lay} (h : Inv13 f L.length) (hf : Fit f L) {i : Nat} (hi : i < L.length) (hg : ∀ j, j < L.length → j ≠ i → g j = f j) {b : Bk} (hb : refE b 1 = 0) (hn : newer L b = true) (hp : str (g i) = recB b 1) : Inv13 g L.length := by
  have hpi : parse (str (g i)) = some b := parse_of hb hp.symm
  refine ⟨fun j hj hm => ?_, fun j k c d hj hk hc hd e1 e2 => ?_⟩
  · by_cases e : j = i
    · subst e; exact ⟨b, hpi⟩
    · rw [hg j hj e] at hm ⊢; exact h.know j hj hm
  · by_cases ej : j = i
    · by_cases ek : k = i
      · rw [ej, ek]
      · subst ej
        rw [hpi] at hc
        cases hc
        rw [hg k hk ek] at hd
        have := hf.older hn hk hd e1.symm
        omega
    · rw [hg j hj ej] at hc
      by_cases ek : k = i
      · subst ek
        rw [hpi] at hd
        cases hd
        have := hf.older hn hj hc e1
        omega
      · rw [hg k hk ek] at hd
        exact h.dist j k c d hj hk hc hd e1 e2
theorem unm_mrk (x : List UInt8) : ¬ mrk (0 :: x) := by rw [mrk_cons]; decide
/-- A plate, and the layout of the shelf on it, behind any calls. -/
structure Nice (s : St) (L : Lay) (n c : Nat) : Prop where
  rest : Rest s n c
  len : L.length = n
  inv : Inv13 (readB s) n
  fit : s.gone = false → Fit (readB s) L
theorem Nice.mono {s : St} {L : Lay} {n c c' : Nat} (h : Nice s L n c) (hc : c ≤ c') : Nice s L n c' := ⟨h.rest.mono hc, h.len, h.inv, h.fit⟩
theorem Nice.fresh (k : Int) : Nice (fresh k) (List.replicate (size0 k) none) (size0 k) 0 := by
  have hz : ∀ i, i < size0 k → readB (Go.Proofs.YtmmpknfkncgjpaaGreatDoor.fresh k) i = zeros 32 := fun i hi => by
    rw [readB_rest (fresh_rest k).wait]
    show (List.replicate (size0 k) (zeros 32)).getD i [] = _
    simp [List.getD, hi]
  have hnm : ¬ mrk (zeros 32) := by unfold mrk; decide +kernel
  refine ⟨fresh_rest k, by simp, ⟨fun i hi hm => ?_, fun i j b c hi hj hb hc => ?_⟩, fun _ => fresh_fit k⟩
  · rw [hz i hi] at hm; exact absurd hm hnm
  · rw [hz i hi, parse_head hnm] at hb; cases hb
theorem Nice.cut {s : St} {L : Lay} {n c : Nat} (h : Nice s L n c) {k : Int} {keep : Nat} (hk : k < 9223372036854775808) (hkp : keep < 18446744073709551616) : Nice (cut s k keep) L n c :=
  ⟨h.rest.cut hk hkp, h.len, h.inv, h.fit⟩
theorem crash_read {s : St} (h : s.wait = []) (keep j : Nat) : readB (crash s keep) j = readB s j ∧ (crash s keep).gone = true := by
  unfold Go.Proofs.YtmmpknfkncgjpaaGreatDoor.crash
  split
  · rename_i hg; exact ⟨rfl, hg⟩
  · refine ⟨?_, rfl⟩
    rw [readB_rest h, readB_rest rfl]
    show (Go.Proofs.YtmmpknfkncgjpaaGreatDoor.done _ s.wait s.is s.wait.length).getD j [] = _
    rw [h]; rfl
theorem power_readB {s : St} (h : s.wait = []) (j : Nat) : readB (power s) j = readB s j := by
  rw [readB_rest h, readB_rest (s := power s) h]; rfl
/-- What a Put comes to: nothing on the sectors, or the block's record. -/
theorem Nice.put_out {s : St} {L : Lay} {n c : Nat} (h : Nice s L n c) (hg : s.gone = false) (b : Bk) :
    Inv13 (readB (putS L s b)) n ∧ ((Fit (readB (putS L s b)) L ∧ putE L s b ≠ 0) ∨ (Fit (readB (putS L s b)) (putL L (low L) b) ∧ preE L s.gone b = 0)) ∧ (putE L s b = 0 → Fit (readB (putS L s b)) (putY L s b) ∧ putY L s b = putL L (low L) b) := by
  have hf := h.fit hg
  by_cases hp : preE L s.gone b = 0
  · obtain ⟨r1, r2, r3, r4⟩ := preE_zero hp
    have e1 : putS L s b = wrS s (low L) b := by unfold putS; rw [if_neg (by omega)]
    have e2 : putE L s b = wrE s (low L) b := by unfold putE; rw [if_neg (by omega)]
    obtain ⟨q1, q2, q3⟩ := h.rest.wr_out hg (i := low L) (by rw [← h.len]; exact r4) r1
    have hother : ∀ j, j < L.length → j ≠ low L → readB (wrS s (low L) b) j = readB s j := fun j _ hj => q1 j hj
    rw [e1, e2]
    have hin : Inv13 (readB s) L.length := by rw [h.len]; exact h.inv
    have fput := fun hr => hf.put (low_free r4) hother r1 r3 hr
    have iput := fun hr => hin.put hf r4 hother r1 r3 hr
    rw [h.len] at iput
    refine ⟨?_, ?_, fun he => ?_⟩
    · rcases q3 with q | q | q
      · refine h.inv.same fun j hj => ?_
        by_cases e : j = low L
        · subst e; exact q
        · exact q1 j e
      · refine h.inv.less fun j hj => ?_
        by_cases e : j = low L
        · subst e; exact .inr q
        · exact .inl (q1 j e)
      · exact iput q
    · by_cases he : wrE s (low L) b = 0
      · exact .inr ⟨fput (q2 he).1, hp⟩
      · rcases q3 with q | q | q
        · refine .inl ⟨hf.same fun j hj => ?_, he⟩
          by_cases e : j = low L
          · subst e; exact q
          · exact q1 j e
        · exact .inl ⟨hf.torn (low_free r4) hother q, he⟩
        · exact .inr ⟨fput q, hp⟩
    · have hy : putY L s b = putL L (low L) b := (putY_zero (by rw [e2]; exact he)).1
      rw [hy]
      exact ⟨fput (q2 he).1, rfl⟩
  · have e1 : putS L s b = s := if_pos hp
    have e2 : putE L s b = preE L s.gone b := if_pos hp
    rw [e1, e2]
    exact ⟨h.inv, .inl ⟨hf, hp⟩, fun he => absurd he hp⟩
theorem Nice.put {s : St} {L : Lay} {n c : Nat} (h : Nice s L n c) (hG : GoodL L) (b : Bk) : Nice (putS L s b) (putY L s b) n (c + 4) := by
  refine ⟨h.rest.put h.len b, by rw [(putY_good hG s b).2]; exact h.len, ?_, fun hg' => ?_⟩
  · cases hg : s.gone with
    | false => exact (h.put_out hg b).1
    | true =>
      have e : putS L s b = s := by
        unfold putS
        rw [if_pos]
        unfold preE
        split
        · assumption
        · first | decide | (rw [if_pos hg]; decide)
      rw [e]; exact h.inv
  · cases hg : s.gone with
    | true =>
      have := (put_lost h.rest h.len b).1 hg
      rw [this] at hg'; cases hg'
    | false =>
      obtain ⟨-, h2, h3⟩ := h.put_out hg b
      by_cases he : putE L s b = 0
      · exact (h3 he).1
      · rw [putY_other he]
        rcases h2 with ⟨h2, -⟩ | ⟨-, hp⟩
        · exact h2
        · -- the write was begun and failed: the power went
          exfalso
          obtain ⟨r1, r2, r3, r4⟩ := preE_zero hp
          have e1 : putS L s b = wrS s (low L) b := by unfold putS; rw [if_neg (by omega)]
          have e2 : putE L s b = wrE s (low L) b := by unfold putE; rw [if_neg (by omega)]
          rw [e2] at he
          have := (h.rest.wr_dead (by rw [← h.len]; exact r4) r1 he).2
          rw [← e1] at this
          rw [this] at hg'; cases hg'
theorem Nice.drop {s : St} {L : Lay} {n c : Nat} (h : Nice s L n c) (hG : GoodL L) (id : Int) : Nice (dropS s id) (dropY L s id) n (c + n + 1) := by
  have hq := drop_un h.rest id
  refine ⟨h.rest.drop id, by rw [(dropY_good hG s id).2]; exact h.len, h.inv.less fun j _ => ?_, fun hg' => ?_⟩
  · rcases hq j with e | e
    · exact .inl e
    · rw [e]; exact .inr (unm_mrk _)
  · cases hg : s.gone with
    | true =>
      have := (drop_lost h.rest id).1 hg
      rw [this] at hg'; cases hg'
    | false =>
      have hf := h.fit hg
      have hI := h.rest.dk hg id n (Nat.le_refl _)
      have hn := h.rest.len
      by_cases h0 : (dk (readB s) id s n).1 = 0
      · cases hb : (dk (readB s) id s n).2.2 with
        | false =>
          obtain ⟨e1, e2⟩ := drop_none hg hn h0 hb
          have hs := hI.none_ h0 hb
          rw [e2, hs]
          unfold dropY
          rw [e1, if_pos (by decide)]
          exact hf
        | true =>
          obtain ⟨e1, e2⟩ := drop_some hg hn h0 hb
          by_cases he : syncE (dk (readB s) id s n).2.1 = 0
          · have hr := read_sync hI.good he
            unfold dropY
            rw [e1, he, if_neg (by simp), e2]
            refine hf.drop id (fun j hj hno => ?_) (fun j b hj hp hid => ?_)
            · rw [hr.1 j, hI.at_ h0 j, if_neg]
              rintro ⟨-, b, hb, e⟩
              exact hno b hb e
            · rw [hr.1 j, hI.at_ h0 j, if_pos ⟨by rw [← h.len]; exact hj, b, hp, hid⟩]
              exact unm_mrk _
          · have := (syncE_dead he).2
            rw [e2] at hg'
            rw [this] at hg'; cases hg'
      · obtain ⟨-, e2⟩ := drop_hit hg hn (Nat.le_refl n) h0
        have := (hI.bad h0).2
        rw [e2] at hg'
        rw [this] at hg'; cases hg'
theorem rest_crash {s : St} {n c : Nat} (h : Rest s n c) (keep : Nat) : Rest (crash s keep) n c ∧ (crash s keep).gone = true := by
  have hw := Still.crash s keep (still_of h.wait)
  refine ⟨⟨h.good.crash keep, hw.1, by rw [crash_len]; exact h.len, ?_⟩, hw.2⟩
  unfold Go.Proofs.YtmmpknfkncgjpaaGreatDoor.crash
  split
  · exact h.few
  · exact h.few
theorem Nice.crash {s : St} {L : Lay} {n c : Nat} (h : Nice s L n c) (keep : Nat) : Nice (crash s keep) L n c ∧ (crash s keep).gone = true := by
  obtain ⟨h1, h2⟩ := rest_crash h.rest keep
  exact ⟨⟨h1, h.len, h.inv.same fun j _ => (crash_read h.rest.wait keep j).1, fun e => by rw [h2] at e; cases e⟩, h2⟩
/-- Power is there again, the shelf is opened. -/
theorem Nice.opened {s : St} {L : Lay} {n c : Nat} (h : Nice s L n c) : Nice (power s) (scan (readB (power s)) n n) n c ∧ (∀ j, readB (power s) j = readB s j) := by
  have hr := fun j => power_readB h.rest.wait j
  have hin : Inv13 (readB (power s)) n := h.inv.same fun j _ => hr j
  have hR := h.rest
  refine ⟨⟨⟨h.rest.good.power, h.rest.wait, h.rest.len, h.rest.few⟩, scan_length _ _ _, hin, fun _ => hin.fit (by have := h.rest.good.hi; rw [h.rest.len] at this; exact this)⟩, hr⟩
end Go.Proofs.YtmmpknfkncgjpaaGreatDoor

namespace Go.Proofs.YtmmpknfkncgjpaaGreatDoor
open Go.RowKit

/-- A thing in memory: where it stands, and the blocks that it has. -/
structure Ob where
  at_ : World → (Nat → Prop) → Prop
  lt : ∀ {w F}, at_ w F → ∀ k, F k → k < w.heap.size
  keeps : ∀ {w w' F G}, at_ w F → Keeps G w w' → (∀ k, F k → ¬ G k) → at_ w' F
theorem Ob.below (X : Ob) {w w' : World} {F : Nat → Prop} (h : X.at_ w F) (hb : Below w.heap.size w w') : X.at_ w' F := X.keeps h (Keeps.of_below (F := fun _ => False) hb) (fun _ _ h => h)
/-- Two side by side. -/
def Ob.mul (X Y : Ob) : Ob where
  at_ w F := ∃ F1 F2, X.at_ w F1 ∧ Y.at_ w F2 ∧ (∀ k, F1 k → ¬ F2 k) ∧ ∀ k, F k ↔ (F1 k ∨ F2 k)
  lt := fun ⟨F1, F2, h1, h2, _, h4⟩ k hk => by
    rcases (h4 k).1 hk with h | h
    · exact X.lt h1 k h
    · exact Y.lt h2 k h
  keeps := fun ⟨F1, F2, h1, h2, h3, h4⟩ hk hd => ⟨F1, F2, X.keeps h1 hk fun k h => hd k ((h4 k).2 (.inl h)), Y.keeps h2 hk fun k h => hd k ((h4 k).2 (.inr h)), h3, h4⟩
section
variable {X Y : Ob} {w : World} {F : Nat → Prop}
theorem Ob.left (h : (X.mul Y).at_ w F) : ∃ F1, X.at_ w F1 ∧ (∀ k, F1 k → F k) ∧ ∀ (X' : Ob) w', Goes F1 w w' (X'.at_ w') → Goes F w w' ((X'.mul Y).at_ w') := by
  obtain ⟨F1, F2, h1, h2, h3, h4⟩ := h
  refine ⟨F1, h1, fun k hk => (h4 k).2 (.inl hk), fun X' w' ⟨F1', q1, q2, q3⟩ => ⟨fun k => F1' k ∨ F2 k, ⟨F1', F2, q1, Y.keeps h2 q3 fun k hk hf => h3 k hf hk, fun k hk hf => ?_, fun k => Iff.rfl⟩, fun k hk => ?_, ?_⟩⟩
  · rcases q2 k hk with h | h
    · exact h3 k h hf
    · have := Y.lt h2 k hf; omega
  · rcases hk with hk | hk
    · rcases q2 k hk with h | h
      · exact .inl ((h4 k).2 (.inl h))
      · exact .inr h
    · exact .inl ((h4 k).2 (.inr hk))
  · exact ⟨q3.os, q3.tape, q3.output, q3.size, fun k hk hn => q3.block k hk fun hf => hn ((h4 k).2 (.inl hf))⟩
theorem Ob.right (h : (X.mul Y).at_ w F) : ∃ F2, Y.at_ w F2 ∧ (∀ k, F2 k → F k) ∧ ∀ (Y' : Ob) w', Goes F2 w w' (Y'.at_ w') → Goes F w w' ((X.mul Y').at_ w') := by
  obtain ⟨F1, F2, h1, h2, h3, h4⟩ := h
  refine ⟨F2, h2, fun k hk => (h4 k).2 (.inr hk), fun Y' w' ⟨F2', q1, q2, q3⟩ => ⟨fun k => F1 k ∨ F2' k, ⟨F1, F2', X.keeps h1 q3 h3, q1, fun k hk hf => ?_, fun k => Iff.rfl⟩, fun k hk => ?_, ?_⟩⟩
  · rcases q2 k hf with h | h
    · exact h3 k hk h
    · have := X.lt h1 k hk; omega
  · rcases hk with hk | hk
    · exact .inl ((h4 k).2 (.inl hk))
    · rcases q2 k hk with h | h
      · exact .inl ((h4 k).2 (.inr h))
      · exact .inr h
  · exact ⟨q3.os, q3.tape, q3.output, q3.size, fun k hk hn => q3.block k hk fun hf => hn ((h4 k).2 (.inr hf))⟩
end
/-- Nothing. -/
def Ob.nil : Ob := ⟨fun _ F => ∀ k, ¬ F k, fun h k hk => (h k hk).elim, fun h _ _ => h⟩
/-- A row of values that is owned. -/
def Ob.row (base e size n : Nat) (v : Value) (xs : List Value) : Ob := ⟨fun w F => w.ownsRow base e size v n xs ∧ ∀ k, F k ↔ v.ownBlock = some k, fun ⟨h, hF⟩ k hk => owns_lt h ((hF k).1 hk), fun ⟨h, hF⟩ hk hd => ⟨hk.owns h fun g hg => hd g ((hF g).2 hg), hF⟩⟩
/-- A block known whole. -/
def Ob.blk (b : Nat) (o : Obj) : Ob := ⟨fun w F => w.heap[b]? = some o ∧ ∀ k, F k ↔ k = b, fun ⟨h, hF⟩ k hk => by rw [(hF k).1 hk]; exact (Array.getElem?_eq_some_iff.1 h).1, fun ⟨h, hF⟩ hk hd => ⟨by rw [hk.block b (Array.getElem?_eq_some_iff.1 h).1 (hd b ((hF b).2 rfl))]; exact h, hF⟩⟩
/-- A struct in a block. -/
def Ob.stc (b t n : Nat) (f : Nat → Value) : Ob := ⟨fun w F => w.rowIs b t n f ∧ ∀ k, F k ↔ k = b, fun ⟨h, hF⟩ k hk => by rw [(hF k).1 hk]; exact h.lt, fun ⟨h, hF⟩ hk hd => ⟨hk.row h (hd b ((hF b).2 rfl)), hF⟩⟩

/-- X, made since w0, beside the blocks O; all that lay in w0 lies as it did. -/
def Hold (w0 w : World) (X : Ob) (O : Nat → Prop) : Prop :=
  ∃ F, X.at_ w F ∧ (∀ k, F k → w0.heap.size ≤ k) ∧ Below w0.heap.size w0 w ∧ ∀ k, O k → ¬ F k ∧ k < w.heap.size
section
variable {w0 w w' : World} {X : Ob} {O O' : Nat → Prop}
theorem Hold.bel (h : Hold w0 w X O) : Below w0.heap.size w0 w := by obtain ⟨F, h1, h2, h3, h4⟩ := h; exact h3
theorem Hold.tab (h : Hold w0 w X O) (hT : Tab w0) : Tab w := hT.below h.bel
theorem Hold.none_ (hb : Below w0.heap.size w0 w) (hO : ∀ k, O k → k < w.heap.size) : Hold w0 w Ob.nil O := ⟨fun _ => False, fun _ h => h, fun _ h => h.elim, hb, fun k hk => ⟨fun h => h, hO k hk⟩⟩
theorem Hold.go (h : Hold w0 w X O) : ∃ F, X.at_ w F ∧ (∀ k, F k → w0.heap.size ≤ k) ∧ ∀ (X' : Ob) w', Goes F w w' (X'.at_ w') → Hold w0 w' X' O ∧ Kept O w w' := by
  obtain ⟨F, h1, h2, h3, h4⟩ := h
  refine ⟨F, h1, h2, fun X' w' ⟨F', k1, k2, k3⟩ => ⟨⟨F', k1, fun k hk => ?_, k3.below h3 h3.size h2, fun k hk => ⟨fun hf => ?_, Nat.lt_of_lt_of_le (h4 k hk).2 k3.size⟩⟩, fun k hk => k3.block k (h4 k hk).2 (h4 k hk).1⟩⟩
  · rcases k2 k hk with h | h
    · exact h2 k h
    · exact Nat.le_trans h3.size h
  · rcases k2 k hf with h | h
    · exact (h4 k hk).1 h
    · have := (h4 k hk).2; omega
theorem Hold.below (h : Hold w0 w X O) (hb : Below w.heap.size w w') : Hold w0 w' X O ∧ Kept O w w' := by
  obtain ⟨F, h1, h2, h3, h4⟩ := h
  exact ⟨⟨F, X.below h1 hb, h2, h3.trans (hb.mono h3.size), fun k hk => ⟨(h4 k hk).1, Nat.lt_of_lt_of_le (h4 k hk).2 hb.size⟩⟩, fun k hk => hb.block k (h4 k hk).2⟩
theorem Hold.news (h : Hold w0 w X O) (hb : Below w.heap.size w w') : Hold w0 w' X (fun k => O k ∨ (w.heap.size ≤ k ∧ k < w'.heap.size)) := by
  obtain ⟨F, h1, h2, h3, h4⟩ := h
  refine ⟨F, X.below h1 hb, h2, h3.trans (hb.mono h3.size), fun k hk => ?_⟩
  rcases hk with hk | ⟨k1, k2⟩
  · exact ⟨(h4 k hk).1, Nat.lt_of_lt_of_le (h4 k hk).2 hb.size⟩
  · exact ⟨fun hf => by have := X.lt h1 k hf; omega, k2⟩
theorem Hold.less (h : Hold w0 w X O) (hO : ∀ k, O' k → O k) : Hold w0 w X O' := by
  obtain ⟨F, h1, h2, h3, h4⟩ := h
  exact ⟨F, h1, h2, h3, fun k hk => h4 k (hO k hk)⟩
/-- One's own blocks turn, and new ones. -/
theorem Hold.turn (h : Hold w0 w X O) (hk : Keeps O w w') (h0 : ∀ k, O k → w0.heap.size ≤ k) (hO : ∀ k, O' k → O k ∨ w.heap.size ≤ k) (hlt : ∀ k, O' k → k < w'.heap.size) : Hold w0 w' X O' := by
  obtain ⟨F, h1, h2, h3, h4⟩ := h
  refine ⟨F, X.keeps h1 hk (fun k hf ho => (h4 k ho).1 hf), h2, hk.below h3 h3.size h0, fun k hk' => ⟨fun hf => ?_, hlt k hk'⟩⟩
  rcases hO k hk' with h | h
  · exact (h4 k h).1 hf
  · have := X.lt h1 k hf; omega
end
end Go.Proofs.YtmmpknfkncgjpaaGreatDoor

namespace Go.Proofs.YtmmpknfkncgjpaaGreatDoor
open Go.RowKit

/-! ### what its maps tell -/
def gU (tm : List Int) (n : Int) : Option Int := if 0 ≤ n ∧ n < (tm.length : Int) ∧ 0 ≤ tm.getD n.toNat (-1) then some (tm.getD n.toNat (-1)) else none
theorem gU_new : gU Sv.new.tm = fun _ => none := by
  funext n
  unfold gU Sv.new
  rw [if_neg]
  rintro ⟨h1, h2, h3⟩
  simp only [List.length_replicate] at h2
  rw [List.getD_eq_getElem?_getD, List.getElem?_replicate, if_pos (by omega)] at h3
  simp at h3
theorem gU_set {tm : List Int} {n x : Int} (h0 : 0 ≤ n) (h1 : n < (tm.length : Int)) (hx : 0 ≤ x) : (fun m => if m = n then some x else gU tm m) = gU (tm.set n.toNat x) := by
  funext m
  unfold gU
  rw [List.length_set]
  by_cases e : m = n
  · subst e
    rw [if_pos rfl]
    have : (tm.set m.toNat x).getD m.toNat (-1) = x := by rw [List.getD_eq_getElem?_getD, List.getElem?_set_self (by omega)]; rfl
    rw [this, if_pos ⟨h0, h1, hx⟩]
  · rw [if_neg e]
    by_cases hm : 0 ≤ m
    · have : (tm.set n.toNat x).getD m.toNat (-1) = tm.getD m.toNat (-1) := by
        rw [List.getD_eq_getElem?_getD, List.getElem?_set_ne (by omega), ← List.getD_eq_getElem?_getD]
      rw [this]
    · rw [if_neg (by omega), if_neg (by omega)]
def gK (kn : List Kn) (n : Int) : Option (Int × Int) := (look kn n).map fun k => (k.q, k.e)
theorem gK_new : gK Sv.new.kn = fun _ => none := rfl
theorem gK_learn (kn : List Kn) (k : Kn) : (fun m => if m = k.c then some (k.q, k.e) else gK kn m) = gK (learn kn k) := by
  funext m
  unfold gK
  by_cases e : m = k.c
  · subst e; rw [if_pos rfl, look_learn_same]; rfl
  · rw [if_neg e, look_learn_other _ _ e]

/-! ### its struct -/
def hdf (pb sb ub kb : Nat) (id ep : Int) (o : Nat) : Value :=
  if o = 0 then .pointer (some ⟨pb, 0, none⟩) else if o = 1 then .int .i64 id else if o = 2 then .pointer (some ⟨sb, 0, none⟩) else if o = 3 then .int .i64 ep else if o = 4 then .map (some ub) else .map (some kb)
structure Hd (w : World) (tb pb sb ub kb : Nat) (id : Int) (v : Sv) (N : Nat) : Prop where
  row : w.rowIs tb 42 6 (hdf pb sb ub kb id v.ep)
  um : Mp elI w ub (gU v.tm) N
  km : Mp elW w kb (gK v.kn) N
  ne : ub ≠ kb
section
variable {w w' : World} {tb pb sb ub kb : Nat} {id : Int} {v : Sv} {N : Nat}
theorem Hd.cells (h : Hd w tb pb sb ub kb id v N) : w.cell? ⟨tb, 0, none⟩ = some (.pointer (some ⟨pb, 0, none⟩)) ∧ w.cell? ⟨tb, 1, none⟩ = some (.int .i64 id) ∧ w.cell? ⟨tb, 2, none⟩ = some (.pointer (some ⟨sb, 0, none⟩)) ∧
    w.cell? ⟨tb, 3, none⟩ = some (.int .i64 v.ep) ∧ w.cell? ⟨tb, 4, none⟩ = some (.map (some ub)) ∧ w.cell? ⟨tb, 5, none⟩ = some (.map (some kb)) :=
  ⟨h.row.cell (by omega), h.row.cell (by omega), h.row.cell (by omega), h.row.cell (by omega), h.row.cell (by omega), h.row.cell (by omega)⟩
theorem Hd.ne_u (h : Hd w tb pb sb ub kb id v N) : ub ≠ tb := h.um.ne_cells h.cells.1
theorem Hd.ne_k (h : Hd w tb pb sb ub kb id v N) : kb ≠ tb := h.km.ne_cells h.cells.1
theorem Hd.lt (h : Hd w tb pb sb ub kb id v N) : tb < w.heap.size ∧ ub < w.heap.size ∧ kb < w.heap.size := ⟨h.row.lt, h.um.lt, h.km.lt⟩
theorem Hd.kept (h : Hd w tb pb sb ub kb id v N) (hb : ∀ k, k = tb ∨ k = ub ∨ k = kb → w'.heap[k]? = w.heap[k]?) : Hd w' tb pb sb ub kb id v N :=
  ⟨h.row.of_block (hb tb (.inl rfl)), h.um.of_block (hb ub (.inr (.inl rfl))), h.km.of_block (hb kb (.inr (.inr rfl))), h.ne⟩
theorem Hd.mono (h : Hd w tb pb sb ub kb id v N) {N' : Nat} (hN : N ≤ N') : Hd w tb pb sb ub kb id v N' := ⟨h.row, h.um.mono hN, h.km.mono hN, h.ne⟩
/-- Its epoch is stored. -/
theorem Hd.epoch (h : Hd w tb pb sb ub kb id v N) (e : Int) : Hd (w.setCell ⟨tb, 3, none⟩ (.int .i64 e)) tb pb sb ub kb id { v with ep := e } N := by
  have hB : ∀ k, k ≠ tb → (w.setCell ⟨tb, 3, none⟩ (.int .i64 e)).heap[k]? = w.heap[k]? := fun k hk => Below.heap_setCell _ _ _ _ hk
  refine ⟨(h.row.set 3 (.int .i64 e)).congr fun o ho => ?_, h.um.of_block (hB _ h.ne_u), h.km.of_block (hB _ h.ne_k), h.ne⟩
  unfold hdf
  by_cases e : o = 3
  · subst e; simp
  · rw [if_neg e]
    have : o = 0 ∨ o = 1 ∨ o = 2 ∨ o = 4 ∨ o = 5 := by omega
    rcases this with rfl | rfl | rfl | rfl | rfl <;> simp
end
/-- The plate in a shelf; its blocks are among them. -/
theorem SF.pls {w : World} {sb mb pb : Nat} {s : St} {L : Lay} {odd : List Nat} {lost : Bool} {F : Nat → Prop} (h : SF w sb mb pb s L odd lost F) : ∃ Fp, PB w pb s Fp ∧ (∀ k, Fp k → F k) ∧ ∀ w' s', Goes Fp w w' (PB w' pb s') → Goes F w w' (SF w' sb mb pb s' L odd lost) := by
  obtain ⟨Fp, vb, k1, k2, k3, k4⟩ := h
  exact ⟨Fp, k1, fun k hk => (k4 k).2 (.inl hk), fun w' s2 ⟨F', e1, e2, e3⟩ => by
    refine ⟨fun k => F' k ∨ Ow sb mb vb k, ⟨F', vb, e1, k2.kept fun k ho => e3.block k (k2.lt k ho) (fun hf => k3 k hf ho), fun k hf ho => ?_, fun k => Iff.rfl⟩, fun k hk => ?_, ?_⟩
    · rcases e2 k hf with h | h
      · exact k3 k h ho
      · have := k2.lt k ho; omega
    · rcases hk with hk | hk
      · rcases e2 k hk with h | h
        · exact .inl ((k4 k).2 (.inl h))
        · exact .inr h
      · exact .inl ((k4 k).2 (.inr hk))
    · exact ⟨e3.os, e3.tape, e3.output, e3.size, fun k hk hn => e3.block k hk fun hf => hn ((k4 k).2 (.inl hf))⟩⟩
/-- A server of the package. -/
def SVo (tb : Nat) (id : Int) (s : St) (L : Lay) (v : Sv) (N : Nat) : Ob where
  at_ w F := ∃ pb sb mb ub kb odd lost F1, SF w sb mb pb s L odd lost F1 ∧ Hd w tb pb sb ub kb id v N ∧ (lost = true → s.gone = true) ∧ (∀ k, F1 k → k ≠ tb ∧ k ≠ ub ∧ k ≠ kb) ∧ ∀ k, F k ↔ (F1 k ∨ k = tb ∨ k = ub ∨ k = kb)
  lt := fun ⟨pb, sb, mb, ub, kb, odd, lost, F1, h1, h2, h3, h4, h5⟩ k hk => by
    rcases (h5 k).1 hk with h | rfl | rfl | rfl
    · exact h1.lt k h
    · exact h2.lt.1
    · exact h2.lt.2.1
    · exact h2.lt.2.2
  keeps := fun ⟨pb, sb, mb, ub, kb, odd, lost, F1, h1, h2, h3, h4, h5⟩ hk hd =>
    ⟨pb, sb, mb, ub, kb, odd, lost, F1, h1.keeps hk fun k h => hd k ((h5 k).2 (.inl h)), h2.kept fun k h => hk.block k (by rcases h with rfl | rfl | rfl; exact h2.lt.1; exact h2.lt.2.1; exact h2.lt.2.2) (hd k ((h5 k).2 (.inr h))), h3, h4, h5⟩
section
variable {w : World} {tb : Nat} {id : Int} {s : St} {L : Lay} {v : Sv} {N : Nat} {F : Nat → Prop}
/-- What it is made of; what follows when its shelf turns, its plate alone, its own blocks. -/
theorem SVo.parts (h : (SVo tb id s L v N).at_ w F) : ∃ pb sb mb ub kb odd lost F1 Fp, SF w sb mb pb s L odd lost F1 ∧ Hd w tb pb sb ub kb id v N ∧ (lost = true → s.gone = true) ∧ PB w pb s Fp ∧ (∀ k, F1 k → F k) ∧ (∀ k, Fp k → F1 k) ∧ F tb ∧ F ub ∧ F kb ∧ ¬ F1 tb ∧
    (∀ w' s2 L2 odd2 lost2, (lost2 = true → s2.gone = true) → Goes F1 w w' (SF w' sb mb pb s2 L2 odd2 lost2) → Goes F w w' ((SVo tb id s2 L2 v N).at_ w')) ∧
    (∀ w' s2, (s.gone = true → s2.gone = true) → Goes Fp w w' (PB w' pb s2) → Goes F w w' ((SVo tb id s2 L v N).at_ w')) ∧
    (∀ w' v2 N2, Keeps (fun k => k = tb ∨ k = ub ∨ k = kb) w w' → Hd w' tb pb sb ub kb id v2 N2 → Goes F w w' ((SVo tb id s L v2 N2).at_ w')) := by
  obtain ⟨pb, sb, mb, ub, kb, odd, lost, F1, h1, h2, h3, h4, h5⟩ := h
  obtain ⟨Fp, q1, hs, q2⟩ := h1.pls
  have core : ∀ w' s2 L2 odd2 lost2, (lost2 = true → s2.gone = true) → Goes F1 w w' (SF w' sb mb pb s2 L2 odd2 lost2) → Goes F w w' ((SVo tb id s2 L2 v N).at_ w') := by
    intro w' s2 L2 odd2 lost2 hl ⟨F1', e1, e2, e3⟩
    refine ⟨fun k => F1' k ∨ k = tb ∨ k = ub ∨ k = kb, ⟨pb, sb, mb, ub, kb, odd2, lost2, F1', e1, h2.kept fun k hk => e3.block k ?_ ?_, hl, fun k hk => ?_, fun k => Iff.rfl⟩, fun k hk => ?_, ?_⟩
    · rcases hk with rfl | rfl | rfl
      · exact h2.lt.1
      · exact h2.lt.2.1
      · exact h2.lt.2.2
    · intro hf
      have := h4 k hf
      omega
    · rcases e2 k hk with h | h
      · exact h4 k h
      · have := h2.lt; omega
    · rcases hk with hk | hk
      · rcases e2 k hk with h | h
        · exact .inl ((h5 k).2 (.inl h))
        · exact .inr h
      · exact .inl ((h5 k).2 (.inr hk))
    · exact ⟨e3.os, e3.tape, e3.output, e3.size, fun k hk hn => e3.block k hk fun hf => hn ((h5 k).2 (.inl hf))⟩
  refine ⟨pb, sb, mb, ub, kb, odd, lost, F1, Fp, h1, h2, h3, q1, fun k hk => (h5 k).2 (.inl hk), hs, (h5 _).2 (.inr (.inl rfl)), (h5 _).2 (.inr (.inr (.inl rfl))), (h5 _).2 (.inr (.inr (.inr rfl))), fun hf => (h4 _ hf).1 rfl, core, fun w' s2 hg hG => core w' s2 L odd lost (fun e => hg (h3 e)) (q2 w' s2 hG), fun w' v2 N2 hk hH => ⟨F, ⟨pb, sb, mb, ub, kb, odd, lost, F1, h1.keeps hk fun k hf ho => ?_, hH, h3, h4, h5⟩, fun k hk => .inl hk, ?_⟩⟩
  · have := h4 k hf; omega
  · exact ⟨hk.os, hk.tape, hk.output, hk.size, fun k hk' hn => hk.block k hk' fun hf => hn ((h5 k).2 (.inr hf))⟩
end
end Go.Proofs.YtmmpknfkncgjpaaGreatDoor
