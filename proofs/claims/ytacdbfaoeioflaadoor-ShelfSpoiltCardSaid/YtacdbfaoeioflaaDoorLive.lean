/-
  While no power goes: what Put and Drop answer; a new plate; what is opened behind it.
-/
import Derived.Test.YtacdbfaoeioflaaDoorDoes
namespace Go.Proofs.YtacdbfaoeioflaaDoor
open Go.RowKit Go.PlainAid

/-- Nothing is ordered, and there is power. -/
def Live (s : St) : Prop := s.gone = false ∧ s.left = 0
theorem Live.count {s : St} (h : Live s) : Live (count s) ∧ countE s = 0 := by
  unfold Go.Proofs.YtacdbfaoeioflaaDoor.count countE
  rw [if_pos h.2, if_neg (by rw [h.2]; omega)]
  exact ⟨h, rfl⟩
theorem Live.write {s : St} (h : Live s) {i : Nat} (hi : i < s.is.length) {t : ByteArray} (ht : t.size = 32) : writeE s i t = 0 ∧ Live (writeS s i t) := by
  obtain ⟨e1, e2⟩ := writeE_in h.1 hi ht
  rw [e1, e2]
  have h' : Live (add s i t) := h
  exact ⟨h.count.2, h'.count.1⟩
theorem Live.sync {s : St} (h : Live s) : syncE s = 0 ∧ Live (syncS s) := by
  unfold syncE syncS
  rw [h.1, h.2]
  refine ⟨by simp, ?_⟩
  rw [if_neg (by simp), if_neg (by omega)]
  have := h.count.1
  exact ⟨this.1, this.2⟩
theorem Live.wr1 {s : St} (h : Live s) {i : Nat} (hi : i < s.is.length) {t : ByteArray} (ht : t.size = 32) : wr1E s i t = 0 ∧ Live (wr1S s i t) := by
  obtain ⟨h1, h2⟩ := h.write hi ht
  obtain ⟨h3, h4⟩ := h2.sync
  unfold wr1E wr1S
  rw [if_neg (by omega), if_neg (by omega)]
  exact ⟨h3, h4⟩
theorem wr1_len (s : St) (i : Nat) (t : ByteArray) : (wr1S s i t).is.length = s.is.length := by
  unfold wr1S; split
  · exact write_len _ _ _
  · rw [sync_len, write_len]
theorem Live.wr {s : St} (h : Live s) {i : Nat} (hi : i < s.is.length) {b : Bk} (hb : refE b 1 = 0) : wrE s i b = 0 ∧ Live (wrS s i b) := by
  have hz := (refE_zero.1 hb).2
  obtain ⟨h1, h2⟩ := h.wr1 hi (recB_size hz 0)
  obtain ⟨h3, h4⟩ := h2.wr1 (by rw [wr1_len]; exact hi) (recB_size hz 1)
  unfold wrE wrS
  rw [if_neg (by omega), if_neg (by omega)]
  exact ⟨h3, h4⟩
theorem Live.put {s : St} (h : Live s) {L : Lay} (hL : L.length = s.is.length) (b : Bk) : putE L s b = preE L false b ∧ Live (putS L s b) := by
  unfold putE putS
  rw [h.1]
  by_cases hp : preE L false b ≠ 0
  · rw [if_pos hp, if_pos hp]; exact ⟨rfl, h⟩
  · obtain ⟨h1, -, -, h4⟩ := preE_zero (by omega : preE L false b = 0)
    rw [if_neg hp, if_neg hp]
    obtain ⟨h5, h6⟩ := h.wr (i := low L) (by omega) h1
    exact ⟨by omega, h6⟩
theorem Live.dk {s : St} {n c : Nat} (hR : Rest s n c) (h : Live s) (id : Int) : ∀ k, k ≤ n → (Go.Proofs.YtacdbfaoeioflaaDoor.dk (readB s) id s k).1 = 0 ∧ Live (Go.Proofs.YtacdbfaoeioflaaDoor.dk (readB s) id s k).2.1 := by
  intro k
  induction k with
  | zero => intro _; exact ⟨rfl, h⟩
  | succ k ih =>
    intro hk
    obtain ⟨h1, h2⟩ := ih (by omega)
    have hD := hR.dk h.1 id k (by omega)
    unfold Go.Proofs.YtacdbfaoeioflaaDoor.dk
    rw [if_neg (by omega)]
    split
    · exact ⟨h1, h2⟩
    · split
      · have hT : (readB s k).length = 32 := readB_length hR.good (by rw [hR.len]; omega)
        exact h2.write (by rw [hD.len]; omega) (unm_size hT)
      · exact ⟨h1, h2⟩
/-- Drop, while no power goes. -/
theorem Live.drop {s : St} {n c : Nat} (hR : Rest s n c) (h : Live s) (id : Int) :
    (((∃ j b, j < n ∧ parse (str (readB s j)) = some b ∧ b.id = id) → dropE s id = 0) ∧ ((¬ ∃ j b, j < n ∧ parse (str (readB s j)) = some b ∧ b.id = id) → dropE s id = 3)) ∧ Live (dropS s id) ∧
    ∀ j, j < n → readB (dropS s id) j = if (∃ b, parse (str (readB s j)) = some b ∧ b.id = id) then 0 :: (readB s j).drop 1 else readB s j := by
  obtain ⟨h1, h2⟩ := Live.dk hR h id n (Nat.le_refl _)
  have hD := hR.dk h.1 id n (Nat.le_refl _)
  have hs := hD.some_ h1
  have ha := hD.at_ h1
  have hno := hD.none_ h1
  have hg := hD.good
  unfold dropE dropS
  rw [h.1, hR.len]
  generalize Go.Proofs.YtacdbfaoeioflaaDoor.dk (readB s) id s n = r at h1 h2 hs ha hno hg ⊢
  have hne : ¬ r.1 ≠ 0 := by omega
  simp only [Bool.false_eq_true, if_false, if_neg hne]
  by_cases hf : r.2.2 = false
  · simp only [if_pos hf]
    rw [hno hf]
    refine ⟨⟨fun e => (by rw [hs.2 e] at hf; cases hf), fun _ => by trivial⟩, h, fun j hj => ?_⟩
    rw [if_neg]
    rintro ⟨b, hb⟩
    rw [hs.2 ⟨j, b, hj, hb⟩] at hf; cases hf
  · simp only [if_neg hf]
    obtain ⟨h3, h4⟩ := h2.sync
    refine ⟨⟨fun _ => h3, fun e => absurd (hs.1 (by simpa using hf)) e⟩, h4, fun j hj => ?_⟩
    rw [(read_sync hg h3).1 j, ha j]
    by_cases hc : ∃ b, parse (str (readB s j)) = some b ∧ b.id = id
    · rw [if_pos ⟨hj, hc⟩, if_pos hc]
    · rw [if_neg (fun e => hc e.2), if_neg hc]

/-! ### a new plate -/
theorem fresh_rest (n : Int) : Rest (fresh n) (size0 n) 0 := ⟨Good.fresh n, rfl, by simp [fresh], Nat.le_refl _⟩
theorem fresh_live (n : Int) : Live (fresh n) := ⟨rfl, rfl⟩
theorem fresh_fit (n : Int) : Fit (readB (fresh n)) (List.replicate (size0 n) none) := by
  refine Fit.zero (size0_in n).2 fun i hi => ?_
  rw [readB_rest rfl]
  simp [fresh, List.getD_eq_getElem?_getD, hi]
theorem fresh_open (n : Int) : scan (readB (fresh n)) (size0 n) (size0 n) = List.replicate (size0 n) none ∧ odds (readB (fresh n)) (size0 n) = [] := by
  have := (fresh_fit n).opens
  rwa [List.length_replicate] at this
theorem replicate_get (n : Nat) (id : Int) : getL (List.replicate n none) id = none := getL_of_none fun _ _ h => (at_replicate h).elim

/-! ### what lies on the plate, from one call to the next -/
/-- At rest, with power, nothing ordered, and the sectors are as the layout says. -/
structure Sound (s : St) (L : Lay) (n k : Nat) : Prop where
  rest : Rest s n k
  live : Live s
  fit : Fit (readB s) L
  len : L.length = n
theorem Sound.fresh (n : Int) : Sound (fresh n) (List.replicate (size0 n) none) (size0 n) 0 := ⟨fresh_rest n, fresh_live n, fresh_fit n, by simp⟩
theorem Sound.opens {s : St} {L : Lay} {n k : Nat} (h : Sound s L n k) : scan (readB s) n n = L ∧ odds (readB s) n = [] := by
  have := h.fit.opens
  rwa [h.len] at this
theorem Sound.put {s : St} {L : Lay} {n k : Nat} (h : Sound s L n k) (b : Bk) : Sound (putS L s b) (putY L s b) n (k + 4) := by
  have hL : L.length = s.is.length := by rw [h.len, h.rest.len]
  obtain ⟨h1, h2⟩ := h.live.put hL b
  obtain ⟨g1, g2⟩ := putY_good h.fit.good s b
  refine ⟨h.rest.put h.len b, h2, ?_, by rw [g2]; exact h.len⟩
  by_cases hp : putE L s b = 0
  · obtain ⟨e1, e2, e3, e4⟩ := putY_zero hp
    obtain ⟨r1, r2, r3, r4⟩ := preE_zero e2
    obtain ⟨q1, q2, -⟩ := h.rest.wr_out h.live.1 (i := low L) (by rw [← h.len]; exact r4) r1
    rw [e1, e4]
    exact h.fit.put (low_free r4) (fun j _ hj => q1 j hj) r1 r3 (q2 e3).1
  · rw [putY_other hp]
    have hpre : preE L s.gone b ≠ 0 := by rw [h.live.1, ← h1]; exact hp
    have : putS L s b = s := if_pos hpre
    rw [this]
    exact h.fit
theorem Sound.drop {s : St} {L : Lay} {n k : Nat} (h : Sound s L n k) (id : Int) : dropE s id = (if (getL L id).isSome then 0 else 3) ∧ Sound (dropS s id) (woL L id) n (k + n + 1) ∧ dropY L s id = woL L id := by
  obtain ⟨h1, h2, h3⟩ := h.live.drop h.rest id
  have hh := h.fit.has id
  rw [h.len] at hh
  have he : dropE s id = if (getL L id).isSome then 0 else 3 := by
    by_cases hs : (getL L id).isSome = true
    · rw [if_pos hs]; exact h1.1 (hh.1 hs)
    · rw [if_neg hs]; exact h1.2 (fun e => hs (hh.2 e))
  refine ⟨he, ⟨h.rest.drop id, h2, ?_, by rw [woL_length]; exact h.len⟩, ?_⟩
  · refine h.fit.drop id (fun j hj hno => ?_) (fun j b hj hp hid => ?_)
    · rw [h3 j (by rw [← h.len]; exact hj), if_neg]
      rintro ⟨b, hb, e⟩
      exact hno b hb e
    · rw [h3 j (by rw [← h.len]; exact hj), if_pos ⟨b, hp, hid⟩, mrk_cons]
      decide
  · unfold dropY
    rw [he]
    cases hg : getL L id with
    | none => simp [woL_self hg]
    | some b => simp
/-- Power goes, and is there again, where nothing waits. -/
theorem Sound.again {s : St} {L : Lay} {n k : Nat} (h : Sound s L n k) (keep : Nat) : Sound (power (crash s keep)) L n k ∧ ∀ j, readB (power (crash s keep)) j = readB s j := by
  have his : (crash s keep).is = s.is := by
    unfold crash
    rw [if_neg (by rw [h.live.1]; simp)]
    show done _ s.wait s.is s.wait.length = _
    rw [h.rest.wait]; rfl
  have hw : (crash s keep).wait = [] := (Still.crash s keep (still_of h.rest.wait)).1
  have hr : ∀ j, readB (power (crash s keep)) j = readB s j := fun j => by
    rw [readB_rest (s := power (crash s keep)) hw, readB_rest h.rest.wait]
    show (crash s keep).is.getD j [] = _
    rw [his]
  refine ⟨⟨⟨(h.rest.good.crash keep).power, hw, by show (crash s keep).is.length = n; rw [his]; exact h.rest.len, by show (crash s keep).n ≤ k; rw [crash_n]; exact h.rest.few⟩, ⟨rfl, rfl⟩, h.fit.same fun j _ => hr j, h.len⟩, hr⟩
end Go.Proofs.YtacdbfaoeioflaaDoor
