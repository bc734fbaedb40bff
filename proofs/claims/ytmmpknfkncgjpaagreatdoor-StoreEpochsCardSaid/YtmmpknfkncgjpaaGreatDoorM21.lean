/-
  The document's own writer and reader (weirkeepref01), by contracts: out of layer 1's texts.

  What Put and Drop answer and leave, as plain data; what a loss of power leaves of them.
-/
import Derived.Test.YtmmpknfkncgjpaaGreatDoorM19
import Derived.Test.YtmmpknfkncgjpaaGreatDoorM20
namespace Go.Proofs.YtmmpknfkncgjpaaGreatDoor
open Go.RowKit Go.Extern.Stop Go.Stop Go.Extern Go.PlainAid Go.Lib

theorem below_drewN {B : Nat} {a w : World} (h : Below B a w) (n : Nat) : Below B a (w.drewN n) := ⟨h.os, h.tape, h.output, h.size, h.block⟩
end Go.Proofs.YtmmpknfkncgjpaaGreatDoor

namespace Go.Proofs.YtmmpknfkncgjpaaGreatDoor
open Go.RowKit Go.PlainAid

/-! ### the plate -/
theorem count_parts (s : St) (h : countE s = 0) : (count s).is = s.is ∧ (count s).wait = s.wait ∧ (count s).gone = s.gone ∧ ((count s).left = 0 ↔ s.left = 0) := by
  unfold countE at h
  unfold count
  by_cases h0 : s.left = 0
  · rw [if_pos h0]; simp [h0]
  · have h1 : ¬ s.left = 1 := fun e => by rw [if_pos e] at h; omega
    rw [if_neg h0, if_neg h1]; simp; omega
theorem wrong_in {s : St} (hg : s.gone = false) {i : Nat} (hi : i < s.is.length) : wrong s i = 0 := by
  unfold wrong; rw [hg, if_neg (by simp), if_neg (by omega)]
theorem writeE_in {s : St} (hg : s.gone = false) {i : Nat} (hi : i < s.is.length) {t : ByteArray} (ht : t.size = 32) : writeE s i t = countE s ∧ writeS s i t = count (add s i t) := by
  have := wrong_in hg hi
  unfold writeE writeS
  rw [this]
  exact ⟨by rw [if_neg (by omega), if_neg (by omega)], by rw [if_neg (by omega)]⟩
theorem pad_full {t : ByteArray} (ht : t.size = 32) : pad t = t.data.toList := by unfold pad; rw [ht]; simp [zeros]
theorem seen_append (ws : List Wr) (x : Wr) (i : Nat) (old : List UInt8) : ∀ j, j ≤ ws.length → seen (ws ++ [x]) i old j = seen ws i old j
  | 0, _ => rfl
  | j + 1, hj => by
    unfold seen
    rw [List.getElem?_append_left (by omega), seen_append ws x i old j (by omega)]
theorem done_seen {ws : List Wr} {is : List (List UInt8)} (h : ∀ i, i < is.length → (is.getD i []).length = 32) (hw : ∀ x ∈ ws, x.i < is.length ∧ x.b.length = 32) (i : Nat) (j : Nat) : (done (fun _ => 32) ws is j).getD i [] = seen ws i (is.getD i []) j := by
  induction j with
  | zero => rfl
  | succ j ih =>
    unfold done seen
    split
    · exact ih
    · next x hx =>
      obtain ⟨h1, h2⟩ := hw x (List.mem_of_getElem? hx)
      rw [getD_set (by rw [done_length]; exact h1)]
      by_cases e : i = x.i
      · rw [if_pos e, if_pos e.symm, ← e]
        exact mix_all h2 (done_sec h hw j i (by rw [e]; exact h1))
      · rw [if_neg e, if_neg (fun q => e q.symm)]
        exact ih
theorem read_write {s : St} (hg : s.gone = false) {i : Nat} (hi : i < s.is.length) {t : ByteArray} (ht : t.size = 32) (he : writeE s i t = 0) :
    (∀ j, readB (writeS s i t) j = if j = i then t.data.toList else readB s j) ∧ (writeS s i t).gone = false ∧ (writeS s i t).is = s.is ∧ (writeS s i t).wait = s.wait ++ [⟨i, t.data.toList⟩] := by
  obtain ⟨e1, e2⟩ := writeE_in hg hi ht
  rw [e1] at he
  have hc : countE (add s i t) = 0 := he
  obtain ⟨k1, k2, k3, -⟩ := count_parts _ hc
  rw [e2]
  refine ⟨fun j => ?_, by rw [k3]; exact hg, k1, ?_⟩
  · unfold readB
    rw [k1, k2]
    show seen (s.wait ++ [_]) j _ (s.wait ++ [_]).length = _
    rw [List.length_append]
    show seen (s.wait ++ [_]) j _ (s.wait.length + 1) = _
    rw [seen]
    simp only [List.getElem?_concat_length]
    rw [seen_append _ _ _ _ _ (Nat.le_refl _), Int.toNat_natCast, pad_full ht]
    by_cases e : j = i
    · rw [if_pos e, if_pos e.symm]
    · rw [if_neg e, if_neg (fun q => e q.symm)]; rfl
  · rw [k2]; unfold add; rw [Int.toNat_natCast, pad_full ht]
theorem read_sync {s : St} (hG : Good s) (he : syncE s = 0) : (∀ j, readB (syncS s) j = readB s j) ∧ (syncS s).gone = false ∧ s.gone = false ∧ (syncS s).wait = [] ∧ (syncS s).is.length = s.is.length := by
  unfold syncE at he
  by_cases hc : s.gone ∨ s.left = 1
  · rw [if_pos hc] at he; omega
  · obtain ⟨c1, c2⟩ := not_or.1 hc
    have c1' : s.gone = false := by simpa using c1
    have hce : countE s = 0 := by unfold countE; rw [if_neg c2]
    obtain ⟨k1, k2, k3, -⟩ := count_parts s hce
    unfold syncS
    rw [if_neg (by simpa using c1), if_neg c2]
    refine ⟨fun j => ?_, by show (count s).gone = false; rw [k3]; exact c1', c1', rfl, by show (done _ _ _ _).length = _; rw [done_length, k1]⟩
    unfold readB
    show (done (fun _ => 32) (count s).wait (count s).is (count s).wait.length).getD j [] = _
    rw [k1, k2]
    exact done_seen hG.sec hG.wt j _
theorem syncS_is {s : St} (he : syncE s = 0) : (syncS s).is = done (fun _ => 32) s.wait s.is s.wait.length ∧ (syncS s).wait = [] ∧ (syncS s).gone = false := by
  unfold syncE at he
  by_cases hc : s.gone ∨ s.left = 1
  · rw [if_pos hc] at he; omega
  · obtain ⟨c1, c2⟩ := not_or.1 hc
    have c1' : s.gone = false := by simpa using c1
    have hce : countE s = 0 := by unfold countE; rw [if_neg c2]
    obtain ⟨k1, k2, k3, -⟩ := count_parts s hce
    unfold syncS
    rw [if_neg (by simpa using c1), if_neg c2]
    exact ⟨by show done _ (count s).wait (count s).is (count s).wait.length = _; rw [k1, k2], rfl, by show (count s).gone = false; rw [k3]; exact c1'⟩
theorem readB_rest {s : St} (h : s.wait = []) (i : Nat) : readB s i = s.is.getD i [] := by unfold readB; rw [h]; rfl
/-- Nothing waits where there is no power. -/
def Still (s : St) : Prop := s.gone = true → s.wait = []
theorem Still.crash (s : St) (keep : Nat) (h : Still s) : (crash s keep).wait = [] ∧ (crash s keep).gone = true := by
  unfold Go.Proofs.YtmmpknfkncgjpaaGreatDoor.crash
  by_cases hg : s.gone = true
  · rw [if_pos hg]; exact ⟨h hg, hg⟩
  · rw [if_neg hg]; exact ⟨rfl, rfl⟩
theorem Still.count {s : St} (h : Still s) : Still (count s) := by
  unfold Go.Proofs.YtmmpknfkncgjpaaGreatDoor.count
  by_cases h0 : s.left = 0
  · rw [if_pos h0]; exact h
  · rw [if_neg h0]
    by_cases h1 : s.left = 1
    · rw [if_pos h1]; exact fun _ => (Still.crash _ _ (by exact h)).1
    · rw [if_neg h1]; exact h
theorem Still.write {s : St} (h : Still s) (i : Int) (t : ByteArray) : Still (writeS s i t) := by
  unfold writeS
  by_cases hc : wrong s i ≠ 0 ∨ 32 < t.size
  · rw [if_pos hc]; exact h
  · rw [if_neg hc]
    refine Still.count (s := add s i t) fun hg => ?_
    have : wrong s i = 0 := by omega
    have := (wrong_zero this).1
    rw [show (add s i t).gone = s.gone from rfl, this] at hg; cases hg
theorem Still.sync {s : St} (h : Still s) : (syncS s).wait = [] := by
  unfold syncS
  by_cases hg : s.gone = true
  · rw [if_pos hg]; exact h hg
  · rw [if_neg hg]
    by_cases h1 : s.left = 1
    · rw [if_pos h1]
      unfold Go.Proofs.YtmmpknfkncgjpaaGreatDoor.count
      rw [if_neg (by omega), if_pos h1]
      exact (Still.crash _ _ (by exact fun e => absurd e hg)).1
    · rw [if_neg h1]; rfl
theorem still_of {s : St} (h : s.wait = []) : Still s := fun _ => h
theorem writeE_dead {s : St} {i : Nat} (hi : i < s.is.length) {t : ByteArray} (ht : t.size = 32) (he : writeE s i t ≠ 0) : writeE s i t = 70 ∧ (writeS s i t).gone = true ∧ (Still s → (writeS s i t).wait = []) := by
  by_cases hg : s.gone = true
  · have hw : wrong s i = 70 := by unfold wrong; rw [if_pos hg]
    unfold writeE writeS
    rw [hw, if_pos (by omega), if_pos (by omega)]
    exact ⟨rfl, hg, fun h => h hg⟩
  · have hg' : s.gone = false := by simpa using hg
    obtain ⟨e1, e2⟩ := writeE_in hg' hi ht
    rw [e1] at he ⊢
    rw [e2]
    have h1 : s.left = 1 := by
      by_cases h1 : s.left = 1
      · exact h1
      · unfold countE at he; rw [if_neg h1] at he; exact absurd rfl he
    refine ⟨by unfold countE; rw [if_pos h1], ?_, fun _ => ?_⟩
    · unfold count; rw [if_neg (by show ¬ s.left = 0; omega), if_pos (by exact h1)]
      exact (Still.crash _ _ (by exact fun e => absurd e hg)).2
    · unfold count; rw [if_neg (by show ¬ s.left = 0; omega), if_pos (by exact h1)]
      exact (Still.crash _ _ (by exact fun e => absurd e hg)).1
theorem syncE_dead {s : St} (he : syncE s ≠ 0) : syncE s = 70 ∧ (syncS s).gone = true := by
  unfold syncE at he ⊢
  by_cases hc : s.gone ∨ s.left = 1
  · rw [if_pos hc]
    refine ⟨rfl, ?_⟩
    unfold syncS
    by_cases hg : s.gone = true
    · rw [if_pos hg]; exact hg
    · rw [if_neg hg, if_pos (by rcases hc with h | h; (exact absurd h hg); (exact h))]
      unfold count
      have h1 : s.left = 1 := by rcases hc with h | h; (exact absurd h hg); (exact h)
      rw [if_neg (by omega), if_pos h1]
      unfold crash
      rw [if_neg (by exact hg)]
  · rw [if_neg hc] at he; omega
theorem write_len (s : St) (i : Int) (t : ByteArray) : (writeS s i t).is.length = s.is.length := by
  unfold writeS
  split
  · rfl
  · have hc : ∀ x : St, (count x).is.length = x.is.length := fun x => by
      unfold count; split
      · rfl
      · split
        · unfold crash; split
          · rfl
          · exact done_length _ _ _ _
        · rfl
    rw [hc]; rfl
theorem sync_len (s : St) : (syncS s).is.length = s.is.length := by
  have hc : ∀ x : St, (count x).is.length = x.is.length := fun x => by
    unfold count; split
    · rfl
    · split
      · unfold crash; split
        · rfl
        · exact done_length _ _ _ _
      · rfl
  unfold syncS
  split
  · rfl
  · split
    · exact hc s
    · show (done _ _ _ _).length = _; rw [done_length]; exact hc s
theorem crash_len (s : St) (k : Nat) : (crash s k).is.length = s.is.length := by
  unfold crash; split
  · rfl
  · exact done_length _ _ _ _

/-! ### a record is written -/
def wr1E (s : St) (i : Nat) (t : ByteArray) : Int := if writeE s i t ≠ 0 then writeE s i t else syncE (writeS s i t)
def wr1S (s : St) (i : Nat) (t : ByteArray) : St := if writeE s i t ≠ 0 then writeS s i t else syncS (writeS s i t)
def wrE (s : St) (i : Nat) (b : Bk) : Int := if wr1E s i (recB b 0) ≠ 0 then wr1E s i (recB b 0) else wr1E (wr1S s i (recB b 0)) i (recB b 1)
def wrS (s : St) (i : Nat) (b : Bk) : St := if wr1E s i (recB b 0) ≠ 0 then wr1S s i (recB b 0) else wr1S (wr1S s i (recB b 0)) i (recB b 1)
/-- What a plate is at rest: how many sectors, how many calls. -/
structure Rest (s : St) (n k : Nat) : Prop where
  good : Good s
  wait : s.wait = []
  len : s.is.length = n
  few : s.n ≤ k
theorem Rest.mono {s : St} {n k k' : Nat} (h : Rest s n k) (hk : k ≤ k') : Rest s n k' := ⟨h.good, h.wait, h.len, Nat.le_trans h.few hk⟩
theorem Rest.wr1 {s : St} {n k : Nat} (h : Rest s n k) {i : Nat} (hi : i < n) {t : ByteArray} (ht : t.size = 32) : Rest (wr1S s i t) n (k + 2) := by
  have h1 := h.good.write i t
  have hs := still_of h.wait
  have h3 : (writeS s i t).n ≤ s.n + 1 := write_n s i t
  have hf := h.few
  have hil : i < s.is.length := by rw [h.len]; exact hi
  unfold wr1S
  by_cases he : writeE s i t ≠ 0
  · rw [if_pos he]
    exact ⟨h1, (writeE_dead hil ht he).2.2 hs, by rw [write_len]; exact h.len, by omega⟩
  · rw [if_neg he]
    have h4 : (syncS (writeS s i t)).n ≤ (writeS s i t).n + 1 := sync_n _
    exact ⟨h1.sync, (hs.write i t).sync, by rw [sync_len, write_len]; exact h.len, by omega⟩
theorem wr1_dead {s : St} {i : Nat} (hi : i < s.is.length) {t : ByteArray} (ht : t.size = 32) (he : wr1E s i t ≠ 0) : wr1E s i t = 70 ∧ (wr1S s i t).gone = true := by
  unfold wr1E wr1S at *
  by_cases hw : writeE s i t ≠ 0
  · rw [if_pos hw] at he ⊢; rw [if_pos hw]
    exact ⟨(writeE_dead hi ht hw).1, (writeE_dead hi ht hw).2.1⟩
  · rw [if_neg hw] at he ⊢; rw [if_neg hw]; exact syncE_dead he
theorem Rest.wr {s : St} {n k : Nat} (h : Rest s n k) {i : Nat} (hi : i < n) {b : Bk} (hb : refE b 1 = 0) : Rest (wrS s i b) n (k + 4) := by
  have hz := (refE_zero.1 hb).2
  have h1 := h.wr1 hi (recB_size hz 0)
  unfold wrS
  split
  · exact h1.mono (by omega)
  · exact (h1.wr1 hi (recB_size hz 1)).mono (by omega)
theorem Rest.wr_dead {s : St} {n k : Nat} (h : Rest s n k) {i : Nat} (hi : i < n) {b : Bk} (hb : refE b 1 = 0) (he : wrE s i b ≠ 0) : wrE s i b = 70 ∧ (wrS s i b).gone = true := by
  have hz := (refE_zero.1 hb).2
  have h1 := h.wr1 hi (recB_size hz 0)
  unfold wrE wrS at *
  by_cases hw : wr1E s i (recB b 0) ≠ 0
  · rw [if_pos hw] at he ⊢; rw [if_pos hw]; exact wr1_dead (by rw [h.len]; exact hi) (recB_size hz 0) hw
  · rw [if_neg hw] at he ⊢; rw [if_neg hw]; exact wr1_dead (by rw [h1.len]; exact hi) (recB_size hz 1) he
/-- What a sector holds at the end of one write, kept or torn. -/
theorem Rest.wr1_out {s : St} {n k : Nat} (h : Rest s n k) (hg : s.gone = false) {i : Nat} (hi : i < n) {t : ByteArray} (ht : t.size = 32) :
    (∀ j, j ≠ i → readB (wr1S s i t) j = readB s j) ∧ (wr1E s i t = 0 → readB (wr1S s i t) i = t.data.toList ∧ (wr1S s i t).gone = false) ∧
    (wr1E s i t ≠ 0 → ∃ q, q % 2 = 0 ∧ readB (wr1S s i t) i = mix q t.data.toList (readB s i)) := by
  have hR := h.wr1 hi ht
  have hil : i < s.is.length := by rw [h.len]; exact hi
  have ht' : t.data.toList.length = 32 := ht
  have hsl : (readB s i).length = 32 := readB_length h.good hil
  unfold wr1S wr1E at *
  obtain ⟨e1, e2⟩ := writeE_in hg hil ht
  by_cases hw : writeE s i t ≠ 0
  · rw [if_pos hw] at hR
    rw [if_pos hw, if_pos hw]
    have h1 : s.left = 1 := by
      by_cases h1 : s.left = 1
      · exact h1
      · rw [e1] at hw; unfold countE at hw; rw [if_neg h1] at hw; exact absurd rfl hw
    have e3 : (writeS s i t).is = s.is.set i (mix (part s.keep 0) t.data.toList (s.is.getD i [])) := by
      rw [e2]
      unfold count
      rw [if_neg (by show ¬ s.left = 0; omega), if_pos (by exact h1)]
      unfold crash
      rw [if_neg (by show ¬ s.gone = true; rw [hg]; simp)]
      show done (part s.keep) (s.wait ++ [_]) s.is (s.wait ++ [_]).length = _
      rw [h.wait]
      show done _ [(⟨(i : Int).toNat, pad t⟩ : Wr)] s.is 1 = _
      rw [done_succ (w := ⟨(i : Int).toNat, pad t⟩) rfl, Int.toNat_natCast, pad_full ht]; rfl
    refine ⟨fun j hj => ?_, fun he => absurd he hw, fun _ => ⟨_, part_even s.keep 0, ?_⟩⟩
    · rw [readB_rest hR.wait, readB_rest h.wait, e3, getD_set hil, if_neg hj]
    · rw [readB_rest hR.wait, readB_rest h.wait, e3, getD_set hil, if_pos rfl]
  · rw [if_neg hw] at hR
    rw [if_neg hw, if_neg hw]
    have hw0 : writeE s i t = 0 := by omega
    obtain ⟨k1, k2, k3, k4⟩ := read_write hg hil ht hw0
    have hGw := h.good.write i t
    by_cases hs : syncE (writeS s i t) = 0
    · obtain ⟨q1, q2, -, q3, -⟩ := read_sync hGw hs
      refine ⟨fun j hj => ?_, fun _ => ⟨?_, q2⟩, fun he => absurd hs he⟩
      · rw [q1, k1, if_neg hj]
      · rw [q1, k1, if_pos rfl]
    · have h1 : (writeS s i t).left = 1 := by
        unfold syncE at hs
        by_cases hc : (writeS s i t).gone ∨ (writeS s i t).left = 1
        · rcases hc with hc | hc
          · rw [k2] at hc; cases hc
          · exact hc
        · rw [if_neg hc] at hs; omega
      have e3 : (syncS (writeS s i t)).is = s.is.set i (mix (part (writeS s i t).keep 0) t.data.toList (s.is.getD i [])) := by
        unfold syncS
        rw [if_neg (by rw [k2]; simp), if_pos h1]
        unfold count
        rw [if_neg (by omega), if_pos h1]
        unfold crash
        rw [if_neg (by show ¬ (writeS s i t).gone = true; rw [k2]; simp)]
        show done (part _) (writeS s i t).wait (writeS s i t).is (writeS s i t).wait.length = _
        rw [k4, k3, h.wait]
        show done _ [(⟨i, t.data.toList⟩ : Wr)] s.is 1 = _
        rw [done_succ (w := ⟨i, t.data.toList⟩) rfl]; rfl
      refine ⟨fun j hj => ?_, fun he => absurd he hs, fun _ => ⟨_, part_even (writeS s i t).keep 0, ?_⟩⟩
      · rw [readB_rest hR.wait, readB_rest h.wait, e3, getD_set hil, if_neg hj]
      · rw [readB_rest hR.wait, readB_rest h.wait, e3, getD_set hil, if_pos rfl]
theorem rec_list (b : Bk) (m : Int) : (recB b m).data.toList = UInt8.ofNat m.toNat :: (sealB b).data.toList := by simp [recB, ByteArray.data_append, strOfNums]
theorem mrk_cons (x : UInt8) (l : List UInt8) : mrk (x :: l) ↔ x = 1 := by
  have h0 : 0 < (str (x :: l)).size := by rw [str_size]; simp
  unfold mrk bt
  rw [dif_pos h0]
  have : (str (x :: l))[0]'h0 = x := rfl
  rw [this]
  constructor
  · intro h; apply UInt8.toNat_inj.1; have : x.toNat = 1 := by exact_mod_cast h
    simpa using this
  · rintro rfl; rfl
/-- Behind a Put that was cut off, or wasn't, the free sector that it took holds what it did, or nothing that is marked, or the block's record. -/
theorem Rest.wr_out {s : St} {n k : Nat} (h : Rest s n k) (hg : s.gone = false) {i : Nat} (hi : i < n) {b : Bk} (hb : refE b 1 = 0) :
    (∀ j, j ≠ i → readB (wrS s i b) j = readB s j) ∧ (wrE s i b = 0 → str (readB (wrS s i b) i) = recB b 1 ∧ (wrS s i b).gone = false) ∧
    (readB (wrS s i b) i = readB s i ∨ ¬ mrk (readB (wrS s i b) i) ∨ str (readB (wrS s i b) i) = recB b 1) := by
  have hz := (refE_zero.1 hb).2
  have hR := h.wr1 hi (recB_size hz 0)
  obtain ⟨a1, a2, a3⟩ := h.wr1_out hg hi (recB_size hz 0)
  have hhead : ∀ (q : Nat) (l : List UInt8), q % 2 = 0 → mix q (recB b 0).data.toList l = l ∨ ¬ mrk (mix q (recB b 0).data.toList l) := by
    intro q l hq
    rw [rec_list]
    cases q with
    | zero => left; simp [mix]
    | succ q =>
      right
      unfold mix
      rw [List.take_succ_cons, List.cons_append, mrk_cons]
      decide
  unfold wrS wrE at *
  by_cases hw : wr1E s i (recB b 0) ≠ 0
  · rw [if_pos hw, if_pos hw]
    refine ⟨a1, fun he => absurd he hw, ?_⟩
    obtain ⟨q, hq, e⟩ := a3 hw
    rw [e]
    rcases hhead q (readB s i) hq with h1 | h1
    · exact .inl h1
    · exact .inr (.inl h1)
  · rw [if_neg hw, if_neg hw]
    obtain ⟨e1, hg1⟩ := a2 (by omega)
    obtain ⟨b1, b2, b3⟩ := hR.wr1_out hg1 hi (recB_size hz 1)
    refine ⟨fun j hj => (b1 j hj).trans (a1 j hj), fun he => ?_, ?_⟩
    · obtain ⟨e2, e3⟩ := b2 he
      exact ⟨by rw [e2]; exact str_of _, e3⟩
    · by_cases he : wr1E (wr1S s i (recB b 0)) i (recB b 1) = 0
      · exact .inr (.inr (by rw [(b2 he).1]; exact str_of _))
      · obtain ⟨q, hq, e⟩ := b3 he
        rw [e, e1, rec_list, rec_list]
        cases q with
        | zero =>
          refine .inr (.inl ?_)
          unfold mix
          rw [List.take_zero, List.nil_append, List.drop_zero, mrk_cons]
          decide
        | succ q =>
          refine .inr (.inr ?_)
          unfold mix
          rw [List.take_succ_cons, List.drop_succ_cons, List.cons_append, List.take_append_drop, ← rec_list b 1]
          exact str_of _

/-! ### Put -/
def preE (L : Lay) (gone : Bool) (b : Bk) : Int := if refE b 1 ≠ 0 then refE b 1 else if gone then 70 else if newer L b = false then 5 else if low L = L.length then 2 else 0
def putE (L : Lay) (s : St) (b : Bk) : Int := if preE L s.gone b ≠ 0 then preE L s.gone b else wrE s (low L) b
def putS (L : Lay) (s : St) (b : Bk) : St := if preE L s.gone b ≠ 0 then s else wrS s (low L) b
def putY (L : Lay) (s : St) (b : Bk) : Lay := if putE L s b ≠ 0 then L else putL L (low L) b
theorem preE_zero {L : Lay} {g : Bool} {b : Bk} (h : preE L g b = 0) : refE b 1 = 0 ∧ g = false ∧ newer L b = true ∧ low L < L.length := by
  unfold preE at h
  have hl := low_le L
  by_cases h1 : refE b 1 ≠ 0
  · rw [if_pos h1] at h; exact absurd h h1
  · rw [if_neg h1] at h
    cases g
    · rw [if_neg (by simp)] at h
      cases hn : newer L b
      · rw [hn, if_pos rfl] at h; omega
      · rw [hn, if_neg (by simp)] at h
        by_cases h2 : low L = L.length
        · rw [if_pos h2] at h; omega
        · exact ⟨by omega, rfl, rfl, by omega⟩
    · rw [if_pos rfl] at h; omega
theorem Rest.put {s : St} {n k : Nat} (h : Rest s n k) {L : Lay} (hL : L.length = n) (b : Bk) : Rest (putS L s b) n (k + 4) := by
  unfold putS
  split
  · exact h.mono (by omega)
  · next hp =>
    obtain ⟨h1, h2, h3, h4⟩ := preE_zero (by omega : preE L s.gone b = 0)
    exact h.wr (by omega) h1
theorem putY_zero {L : Lay} {s : St} {b : Bk} (h : putE L s b = 0) : putY L s b = putL L (low L) b ∧ preE L s.gone b = 0 ∧ wrE s (low L) b = 0 ∧ putS L s b = wrS s (low L) b := by
  unfold putY putS
  rw [if_neg (by omega)]
  unfold putE at h
  by_cases hp : preE L s.gone b ≠ 0
  · rw [if_pos hp] at h; exact absurd h hp
  · rw [if_neg hp] at h; exact ⟨rfl, by omega, h, if_neg hp⟩
theorem putY_other {L : Lay} {s : St} {b : Bk} (h : putE L s b ≠ 0) : putY L s b = L := if_pos h
theorem putY_good {L : Lay} (hG : GoodL L) (s : St) (b : Bk) : GoodL (putY L s b) ∧ (putY L s b).length = L.length := by
  by_cases h : putE L s b = 0
  · obtain ⟨e, h1, -⟩ := putY_zero h
    obtain ⟨h2, -, -, h3⟩ := preE_zero h1
    rw [e]; exact ⟨hG.put h3 h2, putL_length _ _ _⟩
  · rw [putY_other h]; exact ⟨hG, rfl⟩
/-- What Get answers behind a Put. -/
theorem put_get {L : Lay} (hG : GoodL L) {s : St} {b : Bk} (h : putE L s b = 0) (id : Int) : getL (putY L s b) id = if id = b.id then some b else getL L id := by
  obtain ⟨e, h1, -⟩ := putY_zero h
  obtain ⟨h2, -, -, h3⟩ := preE_zero h1
  rw [e]; exact getL_put hG (low_free h3) h2 id

/-! ### Drop -/
def unm (x : List UInt8) : ByteArray := str (0 :: x.drop 1)
noncomputable def dk (T : Nat → List UInt8) (id : Int) (s : St) : Nat → Int × St × Bool
  | 0 => (0, s, false)
  | k + 1 => if (dk T id s k).1 ≠ 0 then dk T id s k else
    match parse (str (T k)) with
    | none => dk T id s k
    | some b => if b.id = id then (writeE (dk T id s k).2.1 k (unm (T k)), writeS (dk T id s k).2.1 k (unm (T k)), true) else dk T id s k
noncomputable def dropE (s : St) (id : Int) : Int :=
  if s.gone then 70 else if (dk (readB s) id s s.is.length).1 ≠ 0 then (dk (readB s) id s s.is.length).1 else if (dk (readB s) id s s.is.length).2.2 = false then 3 else syncE (dk (readB s) id s s.is.length).2.1
noncomputable def dropS (s : St) (id : Int) : St :=
  if s.gone then s else if (dk (readB s) id s s.is.length).1 ≠ 0 then (dk (readB s) id s s.is.length).2.1 else if (dk (readB s) id s s.is.length).2.2 = false then (dk (readB s) id s s.is.length).2.1 else syncS (dk (readB s) id s s.is.length).2.1
noncomputable def dropY (L : Lay) (s : St) (id : Int) : Lay := if dropE s id ≠ 0 then L else woL L id
theorem unm_size {x : List UInt8} (h : x.length = 32) : (unm x).size = 32 := by unfold unm; rw [str_size]; simp [h]
/-- What the first k sectors have come to. -/
structure Dk (s : St) (id : Int) (n c k : Nat) (r : Int × St × Bool) : Prop where
  good : Good r.2.1
  len : r.2.1.is.length = n
  still : Still r.2.1
  few : r.2.1.n ≤ c + k
  wt : r.2.1.wait.length ≤ k
  bad : r.1 ≠ 0 → r.1 = 70 ∧ r.2.1.gone = true
  live : r.1 = 0 → r.2.1.gone = false
  at_ : r.1 = 0 → ∀ j, readB r.2.1 j = if j < k ∧ (∃ b, parse (str (readB s j)) = some b ∧ b.id = id) then 0 :: (readB s j).drop 1 else readB s j
  some_ : r.1 = 0 → (r.2.2 = true ↔ ∃ j b, j < k ∧ parse (str (readB s j)) = some b ∧ b.id = id)
  none_ : r.1 = 0 → r.2.2 = false → r.2.1 = s
theorem Rest.dk {s : St} {n c : Nat} (h : Rest s n c) (hg : s.gone = false) (id : Int) : ∀ k, k ≤ n → Dk s id n c k (dk (readB s) id s k) := by
  intro k
  induction k with
  | zero =>
    intro _
    refine ⟨h.good, h.len, still_of h.wait, h.few, by show s.wait.length ≤ 0; rw [h.wait]; exact Nat.le_refl _, fun e => absurd rfl e, fun _ => hg, fun _ j => ?_, fun _ => ?_, fun _ _ => rfl⟩
    · rw [if_neg (by omega)]; rfl
    · simp [Go.Proofs.YtmmpknfkncgjpaaGreatDoor.dk]
  | succ k ih =>
    intro hk
    have hI := ih (by omega)
    unfold Go.Proofs.YtmmpknfkncgjpaaGreatDoor.dk
    by_cases he : (Go.Proofs.YtmmpknfkncgjpaaGreatDoor.dk (readB s) id s k).1 ≠ 0
    · rw [if_pos he]
      exact ⟨hI.good, hI.len, hI.still, by have := hI.few; omega, by have := hI.wt; omega, hI.bad, fun e => absurd e he, fun e => absurd e he, fun e => absurd e he, fun e => absurd e he⟩
    · rw [if_neg he]
      have he0 : (Go.Proofs.YtmmpknfkncgjpaaGreatDoor.dk (readB s) id s k).1 = 0 := by omega
      have hsame : (∀ b, parse (str (readB s k)) = some b → b.id ≠ id) → Dk s id n c (k + 1) (Go.Proofs.YtmmpknfkncgjpaaGreatDoor.dk (readB s) id s k) := by
        intro hno
        refine ⟨hI.good, hI.len, hI.still, by have := hI.few; omega, by have := hI.wt; omega, hI.bad, hI.live, fun _ j => ?_, fun _ => ?_, hI.none_⟩
        · rw [hI.at_ he0 j]
          by_cases hc : j < k ∧ ∃ b, parse (str (readB s j)) = some b ∧ b.id = id
          · rw [if_pos hc, if_pos ⟨by omega, hc.2⟩]
          · rw [if_neg hc, if_neg]
            rintro ⟨h1, b, h2, h3⟩
            by_cases e : j = k
            · subst e; exact hno b h2 h3
            · exact hc ⟨by omega, b, h2, h3⟩
        · rw [hI.some_ he0]
          constructor
          · rintro ⟨j, b, h1, h2⟩; exact ⟨j, b, by omega, h2⟩
          · rintro ⟨j, b, h1, h2, h3⟩
            by_cases e : j = k
            · subst e; exact absurd h3 (hno b h2)
            · exact ⟨j, b, by omega, h2, h3⟩
      split
      · next hp => exact hsame fun b hb => by rw [hp] at hb; cases hb
      · next b hp =>
        by_cases hid : b.id = id
        · rw [if_pos hid]
          have hkl : k < (Go.Proofs.YtmmpknfkncgjpaaGreatDoor.dk (readB s) id s k).2.1.is.length := by rw [hI.len]; omega
          have hT : (readB s k).length = 32 := readB_length h.good (by rw [h.len]; omega)
          have hsz := unm_size hT
          have hlive := hI.live he0
          generalize hd : Go.Proofs.YtmmpknfkncgjpaaGreatDoor.dk (readB s) id s k = r at hI he0 hkl hlive ⊢
          have hn := write_n r.2.1 (k : Int) (unm (readB s k))
          have hw := write_wait r.2.1 (k : Int) (unm (readB s k))
          refine ⟨hI.good.write _ _, by show (writeS _ _ _).is.length = n; rw [write_len]; exact hI.len, hI.still.write _ _, by have := hI.few; show (writeS _ _ _).n ≤ _; omega, by have := hI.wt; show (writeS _ _ _).wait.length ≤ _; omega, fun e => ?_, fun e => ?_, fun e j => ?_, fun e => ?_, fun e ef => by cases ef⟩
          · obtain ⟨h1, h2, -⟩ := writeE_dead hkl hsz e; exact ⟨h1, h2⟩
          · exact (read_write hlive hkl hsz e).2.1
          · show readB (writeS _ _ _) j = _
            rw [(read_write hlive hkl hsz e).1 j, hI.at_ he0 j]
            by_cases ej : j = k
            · subst ej
              rw [if_pos rfl, if_pos ⟨by omega, b, hp, hid⟩]
              exact str_toList _
            · rw [if_neg ej]
              by_cases hc : j < k ∧ ∃ b, parse (str (readB s j)) = some b ∧ b.id = id
              · rw [if_pos hc, if_pos ⟨by omega, hc.2⟩]
              · rw [if_neg hc, if_neg (fun hx => hc ⟨by omega, hx.2⟩)]
          · exact ⟨fun _ => ⟨k, b, by omega, hp, hid⟩, fun _ => rfl⟩
        · rw [if_neg hid]
          exact hsame fun b' hb' => by rw [hp] at hb'; cases hb'; exact hid
/-- The sector k is read as it was, as long as no write failed. -/
theorem Rest.dk_same {s : St} {n c : Nat} (h : Rest s n c) (hg : s.gone = false) (id : Int) {k : Nat} (hk : k ≤ n) (he : (Go.Proofs.YtmmpknfkncgjpaaGreatDoor.dk (readB s) id s k).1 = 0) : readB (Go.Proofs.YtmmpknfkncgjpaaGreatDoor.dk (readB s) id s k).2.1 k = readB s k := by
  rw [(h.dk hg id k hk).at_ he k, if_neg (by omega)]
theorem Rest.drop {s : St} {n c : Nat} (h : Rest s n c) (id : Int) : Rest (dropS s id) n (c + n + 1) := by
  unfold dropS
  by_cases hg : s.gone = true
  · rw [if_pos hg]; exact h.mono (by omega)
  · rw [if_neg hg]
    have hI := h.dk (by simpa using hg) id n (Nat.le_refl _)
    rw [h.len]
    generalize Go.Proofs.YtmmpknfkncgjpaaGreatDoor.dk (readB s) id s n = r at hI ⊢
    by_cases he : r.1 ≠ 0
    · rw [if_pos he]; exact ⟨hI.good, hI.still (hI.bad he).2, hI.len, by have := hI.few; omega⟩
    · rw [if_neg he]
      by_cases hf : r.2.2 = false
      · rw [if_pos hf, hI.none_ (by omega) hf]; exact h.mono (by omega)
      · rw [if_neg hf]
        have := sync_n r.2.1
        exact ⟨hI.good.sync, hI.still.sync, by rw [sync_len]; exact hI.len, by have := hI.few; omega⟩
theorem dropY_good {L : Lay} (hG : GoodL L) (s : St) (id : Int) : GoodL (dropY L s id) ∧ (dropY L s id).length = L.length := by
  unfold dropY
  split
  · exact ⟨hG, rfl⟩
  · exact ⟨hG.wo id, woL_length _ _⟩
end Go.Proofs.YtmmpknfkncgjpaaGreatDoor
