/-
  While no power goes: what Put and Drop answer; a new plate; what is opened behind it.

  toBytes and toNumber (package shelf) at one, two and eight bytes, by contracts.
-/
import Derived.Test.YtmmpknfkncgjpaaGreatDoorM21
import Derived.Test.YtmmpknfkncgjpaaGreatDoorM22
import Derived.Test.YtmmpknfkncgjpaaGreatDoorM05
import Derived.Lib.EndianBits
import Derived.KernelRfl
namespace Go.Proofs.YtmmpknfkncgjpaaGreatDoor
open Go.RowKit Go.PlainAid

/-- Nothing is ordered, and there is power. -/
def Live (s : St) : Prop := s.gone = false ∧ s.left = 0
theorem Live.count {s : St} (h : Live s) : Live (count s) ∧ countE s = 0 := by
  unfold Go.Proofs.YtmmpknfkncgjpaaGreatDoor.count countE
  rw [if_pos h.2, if_neg (by rw [h.2]; omega)]
  exact ⟨h, rfl⟩
theorem Live.write {s : St} (h : Live s) {i : Nat} (hi : i < s.is.length) {t : ByteArray} (ht : t.size = 32) : writeE s i t = 0 ∧ Live (writeS s i t) := by
  obtain ⟨e1, e2⟩ := writeE_in h.1 hi ht
  rw [e1, e2]
  have h' : Live (add s i t) := h
  exact ⟨h.count.2, h'.count.1⟩
theorem Live.sync {s : St} (h : Live s) : syncE s = 0 ∧ Live (syncS s) := by
  unfold syncE syncS
  rw [h.1, h.2]
  refine ⟨by simp, ?_⟩
  rw [if_neg (by simp), if_neg (by omega)]
  have := h.count.1
  exact ⟨this.1, this.2⟩
theorem Live.wr1 {s : St} (h : Live s) {i : Nat} (hi : i < s.is.length) {t : ByteArray} (ht : t.size = 32) : wr1E s i t = 0 ∧ Live (wr1S s i t) := by
  obtain ⟨h1, h2⟩ := h.write hi ht
  obtain ⟨h3, h4⟩ := h2.sync
  unfold wr1E wr1S
  rw [if_neg (by omega), if_neg (by omega)]
  exact ⟨h3, h4⟩
theorem wr1_len (s : St) (i : Nat) (t : ByteArray) : (wr1S s i t).is.length = s.is.length := by
  unfold wr1S; split
  · exact write_len _ _ _
  · rw [sync_len, write_len]
theorem Live.wr {s : St} (h : Live s) {i : Nat} (hi : i < s.is.length) {b : Bk} (hb : refE b 1 = 0) : wrE s i b = 0 ∧ Live (wrS s i b) := by
  have hz := (refE_zero.1 hb).2
  obtain ⟨h1, h2⟩ := h.wr1 hi (recB_size hz 0)
  obtain ⟨h3, h4⟩ := h2.wr1 (by rw [wr1_len]; exact hi) (recB_size hz 1)
  unfold wrE wrS
  rw [if_neg (by omega), if_neg (by omega)]
  exact ⟨h3, h4⟩
theorem Live.put {s : St} (h : Live s) {L : Lay} (hL : L.length = s.is.length) (b : Bk) : putE L s b = preE L false b ∧ Live (putS L s b) := by
  unfold putE putS
  rw [h.1]
  by_cases hp : preE L false b ≠ 0
  · rw [if_pos hp, if_pos hp]; exact ⟨rfl, h⟩
  · obtain ⟨h1, -, -, h4⟩ := preE_zero (by omega : preE L false b = 0)
    rw [if_neg hp, if_neg hp]
    obtain ⟨h5, h6⟩ := h.wr (i := low L) (by omega) h1
    exact ⟨by omega, h6⟩
theorem Live.dk {s : St} {n c : Nat} (hR : Rest s n c) (h : Live s) (id : Int) : ∀ k, k ≤ n → (Go.Proofs.YtmmpknfkncgjpaaGreatDoor.dk (readB s) id s k).1 = 0 ∧ Live (Go.Proofs.YtmmpknfkncgjpaaGreatDoor.dk (readB s) id s k).2.1 := by
  intro k
  induction k with
  | zero => intro _; exact ⟨rfl, h⟩
  | succ k ih =>
    intro hk
    obtain ⟨h1, h2⟩ := ih (by omega)
    have hD := hR.dk h.1 id k (by omega)
    unfold Go.Proofs.YtmmpknfkncgjpaaGreatDoor.dk
    rw [if_neg (by omega)]
    split
    · exact ⟨h1, h2⟩
    · split
      · have hT : (readB s k).length = 32 := readB_length hR.good (by rw [hR.len]; omega)
        exact h2.write (by rw [hD.len]; omega) (unm_size hT)
      · exact ⟨h1, h2⟩
/-- Drop, while no power goes. -/
theorem Live.drop {s : St} {n c : Nat} (hR : Rest s n c) (h : Live s) (id : Int) :
    (((∃ j b, j < n ∧ parse (str (readB s j)) = some b ∧ b.id = id) → dropE s id = 0) ∧ ((¬ ∃ j b, j < n ∧ parse (str (readB s j)) = some b ∧ b.id = id) → dropE s id = 3)) ∧ Live (dropS s id) ∧
    ∀ j, j < n → readB (dropS s id) j = if (∃ b, parse (str (readB s j)) = some b ∧ b.id = id) then 0 :: (readB s j).drop 1 else readB s j := by
  obtain ⟨h1, h2⟩ := Live.dk hR h id n (Nat.le_refl _)
  have hD := hR.dk h.1 id n (Nat.le_refl _)
  have hs := hD.some_ h1
  have ha := hD.at_ h1
  have hno := hD.none_ h1
  have hg := hD.good
  unfold dropE dropS
  rw [h.1, hR.len]
  generalize Go.Proofs.YtmmpknfkncgjpaaGreatDoor.dk (readB s) id s n = r at h1 h2 hs ha hno hg ⊢
  have hne : ¬ r.1 ≠ 0 := by omega
  simp only [Bool.false_eq_true, if_false, if_neg hne]
  by_cases hf : r.2.2 = false
  · simp only [if_pos hf]
    rw [hno hf]
    refine ⟨⟨fun e => (by rw [hs.2 e] at hf; cases hf), fun _ => by trivial⟩, h, fun j hj => ?_⟩
    rw [if_neg]
    rintro ⟨b, hb⟩
    rw [hs.2 ⟨j, b, hj, hb⟩] at hf; cases hf
  · simp only [if_neg hf]
    obtain ⟨h3, h4⟩ := h2.sync
    refine ⟨⟨fun _ => h3, fun e => absurd (hs.1 (by simpa using hf)) e⟩, h4, fun j hj => ?_⟩
    rw [(read_sync hg h3).1 j, ha j]
    by_cases hc : ∃ b, parse (str (readB s j)) = some b ∧ b.id = id
    · rw [if_pos ⟨hj, hc⟩, if_pos hc]
    · rw [if_neg (fun e => hc e.2), if_neg hc]

/-! ### a new plate -/
theorem fresh_rest (n : Int) : Rest (fresh n) (size0 n) 0 := ⟨Good.fresh n, rfl, by simp [fresh], Nat.le_refl _⟩
theorem fresh_live (n : Int) : Live (fresh n) := ⟨rfl, rfl⟩
theorem fresh_fit (n : Int) : Fit (readB (fresh n)) (List.replicate (size0 n) none) := by
  refine Fit.zero (size0_in n).2 fun i hi => ?_
  rw [readB_rest rfl]
  simp [fresh, List.getD_eq_getElem?_getD, hi]
theorem fresh_open (n : Int) : scan (readB (fresh n)) (size0 n) (size0 n) = List.replicate (size0 n) none ∧ odds (readB (fresh n)) (size0 n) = [] := by
  have := (fresh_fit n).opens
  rwa [List.length_replicate] at this
theorem replicate_get (n : Nat) (id : Int) : getL (List.replicate n none) id = none := getL_of_none fun _ _ h => (at_replicate h).elim

/-! ### what lies on the plate, from one call to the next -/
/-- At rest, with power, nothing ordered, and the sectors are as the layout says. -/
structure Sound (s : St) (L : Lay) (n k : Nat) : Prop where
  rest : Rest s n k
  live : Live s
  fit : Fit (readB s) L
  len : L.length = n
theorem Sound.fresh (n : Int) : Sound (fresh n) (List.replicate (size0 n) none) (size0 n) 0 := ⟨fresh_rest n, fresh_live n, fresh_fit n, by simp⟩
theorem Sound.opens {s : St} {L : Lay} {n k : Nat} (h : Sound s L n k) : scan (readB s) n n = L ∧ odds (readB s) n = [] := by
  have := h.fit.opens
  rwa [h.len] at this
theorem Sound.put {s : St} {L : Lay} {n k : Nat} (h : Sound s L n k) (b : Bk) : Sound (putS L s b) (putY L s b) n (k + 4) := by
  have hL : L.length = s.is.length := by rw [h.len, h.rest.len]
  obtain ⟨h1, h2⟩ := h.live.put hL b
  obtain ⟨g1, g2⟩ := putY_good h.fit.good s b
  refine ⟨h.rest.put h.len b, h2, ?_, by rw [g2]; exact h.len⟩
  by_cases hp : putE L s b = 0
  · obtain ⟨e1, e2, e3, e4⟩ := putY_zero hp
    obtain ⟨r1, r2, r3, r4⟩ := preE_zero e2
    obtain ⟨q1, q2, -⟩ := h.rest.wr_out h.live.1 (i := low L) (by rw [← h.len]; exact r4) r1
    rw [e1, e4]
    exact h.fit.put (low_free r4) (fun j _ hj => q1 j hj) r1 r3 (q2 e3).1
  · rw [putY_other hp]
    have hpre : preE L s.gone b ≠ 0 := by rw [h.live.1, ← h1]; exact hp
    have : putS L s b = s := if_pos hpre
    rw [this]
    exact h.fit
theorem Sound.drop {s : St} {L : Lay} {n k : Nat} (h : Sound s L n k) (id : Int) : dropE s id = (if (getL L id).isSome then 0 else 3) ∧ Sound (dropS s id) (woL L id) n (k + n + 1) ∧ dropY L s id = woL L id := by
  obtain ⟨h1, h2, h3⟩ := h.live.drop h.rest id
  have hh := h.fit.has id
  rw [h.len] at hh
  have he : dropE s id = if (getL L id).isSome then 0 else 3 := by
    by_cases hs : (getL L id).isSome = true
    · rw [if_pos hs]; exact h1.1 (hh.1 hs)
    · rw [if_neg hs]; exact h1.2 (fun e => hs (hh.2 e))
  refine ⟨he, ⟨h.rest.drop id, h2, ?_, by rw [woL_length]; exact h.len⟩, ?_⟩
  · refine h.fit.drop id (fun j hj hno => ?_) (fun j b hj hp hid => ?_)
    · rw [h3 j (by rw [← h.len]; exact hj), if_neg]
      rintro ⟨b, hb, e⟩
      exact hno b hb e
    · rw [h3 j (by rw [← h.len]; exact hj), if_pos ⟨b, hp, hid⟩, mrk_cons]
      decide
  · unfold dropY
    rw [he]
    cases hg : getL L id with
    | none => simp [woL_self hg]
    | some b => simp
/-- Power goes, and is there again, where nothing waits. -/
theorem Sound.again {s : St} {L : Lay} {n k : Nat} (h : Sound s L n k) (keep : Nat) : Sound (power (crash s keep)) L n k ∧ ∀ j, readB (power (crash s keep)) j = readB s j := by
  have his : (crash s keep).is = s.is := by
    unfold crash
    rw [if_neg (by rw [h.live.1]; simp)]
    show done _ s.wait s.is s.wait.length = _
    rw [h.rest.wait]; rfl
  have hw : (crash s keep).wait = [] := (Still.crash s keep (still_of h.rest.wait)).1
  have hr : ∀ j, readB (power (crash s keep)) j = readB s j := fun j => by
    rw [readB_rest (s := power (crash s keep)) hw, readB_rest h.rest.wait]
    show (crash s keep).is.getD j [] = _
    rw [his]
  refine ⟨⟨⟨(h.rest.good.crash keep).power, hw, by show (crash s keep).is.length = n; rw [his]; exact h.rest.len, by show (crash s keep).n ≤ k; rw [crash_n]; exact h.rest.few⟩, ⟨rfl, rfl⟩, h.fit.same fun j _ => hr j, h.len⟩, hr⟩
end Go.Proofs.YtmmpknfkncgjpaaGreatDoor

namespace Go.Proofs.YtmmpknfkncgjpaaGreatDoor
open Go.RowKit Go.PlainAid Go.Lib

theorem wraps_i64 (n : Int) (h₀ : 0 ≤ n) (h₁ : n < 2 ^ 63) : IntKind.i64.wrap n = n := IntWalk.i64_in _ (by omega)
theorem i64_or (j : Nat) (y x : Int) (hy₀ : 0 ≤ y) (hy : y < 2 ^ j) (hy₁ : y < 2 ^ 63) (hx₀ : 0 ≤ x) (hx : x % 2 ^ j = 0) (hx₁ : x < 2 ^ 63) : bits .or .i64 y x = y + x :=
  bits_join_low .i64 63 (by decide) wraps_i64 j y x hy₀ hy hy₁ hx₀ hx hx₁
theorem or_neg (y x : Int) (h0 : -9223372036854775808 ≤ x) (h1 : x < 0) : bits .or .i64 y x < 0 := by
  have hx : (BitVec.ofInt IntKind.i64.bits x).toNat = (x + 18446744073709551616).toNat := by
    simp [IntKind.bits, BitVec.toNat_ofInt]; omega
  have hle : (x + 18446744073709551616).toNat ≤ (BitVec.ofInt IntKind.i64.bits y ||| BitVec.ofInt IntKind.i64.bits x).toNat := by
    rw [BitVec.toNat_or, hx]; exact Nat.right_le_or
  have hlt : (BitVec.ofInt IntKind.i64.bits y ||| BitVec.ofInt IntKind.i64.bits x).toNat < 18446744073709551616 := (BitVec.ofInt IntKind.i64.bits y ||| BitVec.ofInt IntKind.i64.bits x).isLt
  unfold bits
  simp only
  generalize (BitVec.ofInt IntKind.i64.bits y ||| BitVec.ofInt IntKind.i64.bits x).toNat = v at hle hlt
  rw [IntKind.wrap_i64]; omega
theorem bt_in (s : ByteArray) (i : Nat) : 0 ≤ bt s i ∧ bt s i ≤ 255 := ⟨bt_nonneg s i, bt_le s i⟩
set_option maxRecDepth 100000 in
set_option maxHeartbeats 2000000 in
theorem toNum1 (s : ByteArray) (w : World) (hs : s.size = 1) :
    Calls Tryz.prog 124 #[.string s] w fun e w' => e = .returned (.int .i64 (lev s 1)) ∧ w = w' := by
  have hl : lev s 1 = bt s 0 := by simp only [lev]; omega
  have hbt := get_bt s
  have hI : (s.size : Int) = 1 := by omega
  have z0 : 0 < s.size := by omega
  have r0 := bt_in s 0
  obtain ⟨b0, e0⟩ : ∃ x, bt s 0 = x := ⟨_, rfl⟩
  rw [e0] at r0
  rw [e0] at hl
  rw [hl]
  clear hl
  have c0 : IntKind.i64.wrap b0 = b0 := IntWalk.i64_in _ (by omega)
  have o0 : bits .or .i64 0 b0 = b0 := by rw [i64_or 0 0 b0 (by omega) (by omega) (by omega) (by omega) (by omega) (by omega)]; omega
  clear r0
  go_enter Tryz.func124, Tryz.ntmps124
  go_wp2
  go_rounds 2
  go_ret
  exact ⟨rfl, rfl⟩
set_option maxRecDepth 100000 in
set_option maxHeartbeats 2000000 in
theorem toNum2 (s : ByteArray) (w : World) (hs : s.size = 2) :
    Calls Tryz.prog 124 #[.string s] w fun e w' => e = .returned (.int .i64 (lev s 2)) ∧ w = w' := by
  have hl : lev s 2 = bt s 0 + bt s 1 * 256 := by simp only [lev]; omega
  have hbt := get_bt s
  have hI : (s.size : Int) = 2 := by omega
  have z0 : 0 < s.size := by omega
  have r0 := bt_in s 0
  obtain ⟨b0, e0⟩ : ∃ x, bt s 0 = x := ⟨_, rfl⟩
  rw [e0] at r0
  have z1 : 1 < s.size := by omega
  have r1 := bt_in s 1
  obtain ⟨b1, e1⟩ : ∃ x, bt s 1 = x := ⟨_, rfl⟩
  rw [e1] at r1
  rw [e0, e1] at hl
  rw [hl]
  clear hl
  have c0 : IntKind.i64.wrap b0 = b0 := IntWalk.i64_in _ (by omega)
  have c1 : IntKind.i64.wrap b1 = b1 := IntWalk.i64_in _ (by omega)
  have d1 : IntKind.i64.wrap (b1 * 256) = b1 * 256 := IntWalk.i64_in _ (by omega)
  have o0 : bits .or .i64 0 b0 = b0 := by rw [i64_or 0 0 b0 (by omega) (by omega) (by omega) (by omega) (by omega) (by omega)]; omega
  have o1 : bits .or .i64 (b0) (b1 * 256) = b0 + b1 * 256 := i64_or 8 (b0) (b1 * 256) (by omega) (by omega) (by omega) (by omega) (by omega) (by omega)
  clear r0 r1
  go_enter Tryz.func124, Tryz.ntmps124
  go_wp2
  go_rounds 3
  go_ret
  exact ⟨rfl, rfl⟩
set_option maxRecDepth 100000 in
set_option maxHeartbeats 2000000 in
theorem toNum8 (s : ByteArray) (w : World) (hs : s.size = 8) (h7 : bt s 7 ≤ 127) :
    Calls Tryz.prog 124 #[.string s] w fun e w' => e = .returned (.int .i64 (lev s 8)) ∧ w = w' := by
  have hl : lev s 8 = bt s 0 + bt s 1 * 256 + bt s 2 * 65536 + bt s 3 * 16777216 + bt s 4 * 4294967296 + bt s 5 * 1099511627776 + bt s 6 * 281474976710656 + bt s 7 * 72057594037927936 := by simp only [lev]; omega
  have hbt := get_bt s
  have hI : (s.size : Int) = 8 := by omega
  have z0 : 0 < s.size := by omega
  have r0 := bt_in s 0
  obtain ⟨b0, e0⟩ : ∃ x, bt s 0 = x := ⟨_, rfl⟩
  rw [e0] at r0
  have z1 : 1 < s.size := by omega
  have r1 := bt_in s 1
  obtain ⟨b1, e1⟩ : ∃ x, bt s 1 = x := ⟨_, rfl⟩
  rw [e1] at r1
  have z2 : 2 < s.size := by omega
  have r2 := bt_in s 2
  obtain ⟨b2, e2⟩ : ∃ x, bt s 2 = x := ⟨_, rfl⟩
  rw [e2] at r2
  have z3 : 3 < s.size := by omega
  have r3 := bt_in s 3
  obtain ⟨b3, e3⟩ : ∃ x, bt s 3 = x := ⟨_, rfl⟩
  rw [e3] at r3
  have z4 : 4 < s.size := by omega
  have r4 := bt_in s 4
  obtain ⟨b4, e4⟩ : ∃ x, bt s 4 = x := ⟨_, rfl⟩
  rw [e4] at r4
  have z5 : 5 < s.size := by omega
  have r5 := bt_in s 5
  obtain ⟨b5, e5⟩ : ∃ x, bt s 5 = x := ⟨_, rfl⟩
  rw [e5] at r5
  have z6 : 6 < s.size := by omega
  have r6 := bt_in s 6
  obtain ⟨b6, e6⟩ : ∃ x, bt s 6 = x := ⟨_, rfl⟩
  rw [e6] at r6
  have z7 : 7 < s.size := by omega
  have r7 := bt_in s 7
  obtain ⟨b7, e7⟩ : ∃ x, bt s 7 = x := ⟨_, rfl⟩
  rw [e7] at r7
  rw [e7] at h7
  rw [e0, e1, e2, e3, e4, e5, e6, e7] at hl
  rw [hl]
  clear hl
  have c0 : IntKind.i64.wrap b0 = b0 := IntWalk.i64_in _ (by omega)
  have c1 : IntKind.i64.wrap b1 = b1 := IntWalk.i64_in _ (by omega)
  have d1 : IntKind.i64.wrap (b1 * 256) = b1 * 256 := IntWalk.i64_in _ (by omega)
  have c2 : IntKind.i64.wrap b2 = b2 := IntWalk.i64_in _ (by omega)
  have d2 : IntKind.i64.wrap (b2 * 65536) = b2 * 65536 := IntWalk.i64_in _ (by omega)
  have c3 : IntKind.i64.wrap b3 = b3 := IntWalk.i64_in _ (by omega)
  have d3 : IntKind.i64.wrap (b3 * 16777216) = b3 * 16777216 := IntWalk.i64_in _ (by omega)
  have c4 : IntKind.i64.wrap b4 = b4 := IntWalk.i64_in _ (by omega)
  have d4 : IntKind.i64.wrap (b4 * 4294967296) = b4 * 4294967296 := IntWalk.i64_in _ (by omega)
  have c5 : IntKind.i64.wrap b5 = b5 := IntWalk.i64_in _ (by omega)
  have d5 : IntKind.i64.wrap (b5 * 1099511627776) = b5 * 1099511627776 := IntWalk.i64_in _ (by omega)
  have c6 : IntKind.i64.wrap b6 = b6 := IntWalk.i64_in _ (by omega)
  have d6 : IntKind.i64.wrap (b6 * 281474976710656) = b6 * 281474976710656 := IntWalk.i64_in _ (by omega)
  have c7 : IntKind.i64.wrap b7 = b7 := IntWalk.i64_in _ (by omega)
  have d7 : IntKind.i64.wrap (b7 * 72057594037927936) = b7 * 72057594037927936 := IntWalk.i64_in _ (by omega)
  have o0 : bits .or .i64 0 b0 = b0 := by rw [i64_or 0 0 b0 (by omega) (by omega) (by omega) (by omega) (by omega) (by omega)]; omega
  have o1 : bits .or .i64 (b0) (b1 * 256) = b0 + b1 * 256 := i64_or 8 (b0) (b1 * 256) (by omega) (by omega) (by omega) (by omega) (by omega) (by omega)
  have o2 : bits .or .i64 (b0 + b1 * 256) (b2 * 65536) = b0 + b1 * 256 + b2 * 65536 := i64_or 16 (b0 + b1 * 256) (b2 * 65536) (by omega) (by omega) (by omega) (by omega) (by omega) (by omega)
  have o3 : bits .or .i64 (b0 + b1 * 256 + b2 * 65536) (b3 * 16777216) = b0 + b1 * 256 + b2 * 65536 + b3 * 16777216 := i64_or 24 (b0 + b1 * 256 + b2 * 65536) (b3 * 16777216) (by omega) (by omega) (by omega) (by omega) (by omega) (by omega)
  have o4 : bits .or .i64 (b0 + b1 * 256 + b2 * 65536 + b3 * 16777216) (b4 * 4294967296) = b0 + b1 * 256 + b2 * 65536 + b3 * 16777216 + b4 * 4294967296 := i64_or 32 (b0 + b1 * 256 + b2 * 65536 + b3 * 16777216) (b4 * 4294967296) (by omega) (by omega) (by omega) (by omega) (by omega) (by omega)
  have o5 : bits .or .i64 (b0 + b1 * 256 + b2 * 65536 + b3 * 16777216 + b4 * 4294967296) (b5 * 1099511627776) = b0 + b1 * 256 + b2 * 65536 + b3 * 16777216 + b4 * 4294967296 + b5 * 1099511627776 := i64_or 40 (b0 + b1 * 256 + b2 * 65536 + b3 * 16777216 + b4 * 4294967296) (b5 * 1099511627776) (by omega) (by omega) (by omega) (by omega) (by omega) (by omega)
  have o6 : bits .or .i64 (b0 + b1 * 256 + b2 * 65536 + b3 * 16777216 + b4 * 4294967296 + b5 * 1099511627776) (b6 * 281474976710656) = b0 + b1 * 256 + b2 * 65536 + b3 * 16777216 + b4 * 4294967296 + b5 * 1099511627776 + b6 * 281474976710656 := i64_or 48 (b0 + b1 * 256 + b2 * 65536 + b3 * 16777216 + b4 * 4294967296 + b5 * 1099511627776) (b6 * 281474976710656) (by omega) (by omega) (by omega) (by omega) (by omega) (by omega)
  have o7 : bits .or .i64 (b0 + b1 * 256 + b2 * 65536 + b3 * 16777216 + b4 * 4294967296 + b5 * 1099511627776 + b6 * 281474976710656) (b7 * 72057594037927936) = b0 + b1 * 256 + b2 * 65536 + b3 * 16777216 + b4 * 4294967296 + b5 * 1099511627776 + b6 * 281474976710656 + b7 * 72057594037927936 := i64_or 56 (b0 + b1 * 256 + b2 * 65536 + b3 * 16777216 + b4 * 4294967296 + b5 * 1099511627776 + b6 * 281474976710656) (b7 * 72057594037927936) (by omega) (by omega) (by omega) (by omega) (by omega) (by omega)
  clear r0 r1 r2 r3 r4 r5 r6 r7 h7
  go_enter Tryz.func124, Tryz.ntmps124
  go_wp2
  go_rounds 9
  go_ret
  exact ⟨rfl, rfl⟩
set_option maxRecDepth 100000 in
set_option maxHeartbeats 2000000 in
theorem toNumBad (s : ByteArray) (hs : s.size = 8) (h7 : 127 < bt s 7) :
    ∃ V : Int, V < 0 ∧ ∀ w : World, Calls Tryz.prog 124 #[.string s] w fun e w' => e = .returned (.int .i64 V) ∧ w = w' := by
  have hbt := get_bt s
  have hI : (s.size : Int) = 8 := by omega
  have z0 : 0 < s.size := by omega
  have r0 := bt_in s 0
  obtain ⟨b0, e0⟩ : ∃ x, bt s 0 = x := ⟨_, rfl⟩
  rw [e0] at r0
  have z1 : 1 < s.size := by omega
  have r1 := bt_in s 1
  obtain ⟨b1, e1⟩ : ∃ x, bt s 1 = x := ⟨_, rfl⟩
  rw [e1] at r1
  have z2 : 2 < s.size := by omega
  have r2 := bt_in s 2
  obtain ⟨b2, e2⟩ : ∃ x, bt s 2 = x := ⟨_, rfl⟩
  rw [e2] at r2
  have z3 : 3 < s.size := by omega
  have r3 := bt_in s 3
  obtain ⟨b3, e3⟩ : ∃ x, bt s 3 = x := ⟨_, rfl⟩
  rw [e3] at r3
  have z4 : 4 < s.size := by omega
  have r4 := bt_in s 4
  obtain ⟨b4, e4⟩ : ∃ x, bt s 4 = x := ⟨_, rfl⟩
  rw [e4] at r4
  have z5 : 5 < s.size := by omega
  have r5 := bt_in s 5
  obtain ⟨b5, e5⟩ : ∃ x, bt s 5 = x := ⟨_, rfl⟩
  rw [e5] at r5
  have z6 : 6 < s.size := by omega
  have r6 := bt_in s 6
  obtain ⟨b6, e6⟩ : ∃ x, bt s 6 = x := ⟨_, rfl⟩
  rw [e6] at r6
  have z7 : 7 < s.size := by omega
  have r7 := bt_in s 7
  obtain ⟨b7, e7⟩ : ∃ x, bt s 7 = x := ⟨_, rfl⟩
  rw [e7] at r7
  rw [e7] at h7
  have c0 : IntKind.i64.wrap b0 = b0 := IntWalk.i64_in _ (by omega)
  have c1 : IntKind.i64.wrap b1 = b1 := IntWalk.i64_in _ (by omega)
  have d1 : IntKind.i64.wrap (b1 * 256) = b1 * 256 := IntWalk.i64_in _ (by omega)
  have c2 : IntKind.i64.wrap b2 = b2 := IntWalk.i64_in _ (by omega)
  have d2 : IntKind.i64.wrap (b2 * 65536) = b2 * 65536 := IntWalk.i64_in _ (by omega)
  have c3 : IntKind.i64.wrap b3 = b3 := IntWalk.i64_in _ (by omega)
  have d3 : IntKind.i64.wrap (b3 * 16777216) = b3 * 16777216 := IntWalk.i64_in _ (by omega)
  have c4 : IntKind.i64.wrap b4 = b4 := IntWalk.i64_in _ (by omega)
  have d4 : IntKind.i64.wrap (b4 * 4294967296) = b4 * 4294967296 := IntWalk.i64_in _ (by omega)
  have c5 : IntKind.i64.wrap b5 = b5 := IntWalk.i64_in _ (by omega)
  have d5 : IntKind.i64.wrap (b5 * 1099511627776) = b5 * 1099511627776 := IntWalk.i64_in _ (by omega)
  have c6 : IntKind.i64.wrap b6 = b6 := IntWalk.i64_in _ (by omega)
  have d6 : IntKind.i64.wrap (b6 * 281474976710656) = b6 * 281474976710656 := IntWalk.i64_in _ (by omega)
  have c7 : IntKind.i64.wrap b7 = b7 := IntWalk.i64_in _ (by omega)
  have o0 : bits .or .i64 0 b0 = b0 := by rw [i64_or 0 0 b0 (by omega) (by omega) (by omega) (by omega) (by omega) (by omega)]; omega
  have o1 : bits .or .i64 (b0) (b1 * 256) = b0 + b1 * 256 := i64_or 8 (b0) (b1 * 256) (by omega) (by omega) (by omega) (by omega) (by omega) (by omega)
  have o2 : bits .or .i64 (b0 + b1 * 256) (b2 * 65536) = b0 + b1 * 256 + b2 * 65536 := i64_or 16 (b0 + b1 * 256) (b2 * 65536) (by omega) (by omega) (by omega) (by omega) (by omega) (by omega)
  have o3 : bits .or .i64 (b0 + b1 * 256 + b2 * 65536) (b3 * 16777216) = b0 + b1 * 256 + b2 * 65536 + b3 * 16777216 := i64_or 24 (b0 + b1 * 256 + b2 * 65536) (b3 * 16777216) (by omega) (by omega) (by omega) (by omega) (by omega) (by omega)
  have o4 : bits .or .i64 (b0 + b1 * 256 + b2 * 65536 + b3 * 16777216) (b4 * 4294967296) = b0 + b1 * 256 + b2 * 65536 + b3 * 16777216 + b4 * 4294967296 := i64_or 32 (b0 + b1 * 256 + b2 * 65536 + b3 * 16777216) (b4 * 4294967296) (by omega) (by omega) (by omega) (by omega) (by omega) (by omega)
  have o5 : bits .or .i64 (b0 + b1 * 256 + b2 * 65536 + b3 * 16777216 + b4 * 4294967296) (b5 * 1099511627776) = b0 + b1 * 256 + b2 * 65536 + b3 * 16777216 + b4 * 4294967296 + b5 * 1099511627776 := i64_or 40 (b0 + b1 * 256 + b2 * 65536 + b3 * 16777216 + b4 * 4294967296) (b5 * 1099511627776) (by omega) (by omega) (by omega) (by omega) (by omega) (by omega)
  have o6 : bits .or .i64 (b0 + b1 * 256 + b2 * 65536 + b3 * 16777216 + b4 * 4294967296 + b5 * 1099511627776) (b6 * 281474976710656) = b0 + b1 * 256 + b2 * 65536 + b3 * 16777216 + b4 * 4294967296 + b5 * 1099511627776 + b6 * 281474976710656 := i64_or 48 (b0 + b1 * 256 + b2 * 65536 + b3 * 16777216 + b4 * 4294967296 + b5 * 1099511627776) (b6 * 281474976710656) (by omega) (by omega) (by omega) (by omega) (by omega) (by omega)
  have hw : IntKind.i64.wrap (b7 * 72057594037927936) = b7 * 72057594037927936 - 18446744073709551616 := by rw [IntKind.wrap_i64]; omega
  have hn := or_neg (b0 + b1 * 256 + b2 * 65536 + b3 * 16777216 + b4 * 4294967296 + b5 * 1099511627776 + b6 * 281474976710656) (b7 * 72057594037927936 - 18446744073709551616) (by omega) (by omega)
  obtain ⟨V, hV⟩ : ∃ V, bits .or .i64 (b0 + b1 * 256 + b2 * 65536 + b3 * 16777216 + b4 * 4294967296 + b5 * 1099511627776 + b6 * 281474976710656) (b7 * 72057594037927936 - 18446744073709551616) = V := ⟨_, rfl⟩
  rw [hV] at hn
  have HN := Lib.hid hn
  clear r0 r1 r2 r3 r4 r5 r6 r7 h7 hn
  refine ⟨V, HN.out, fun w => ?_⟩
  go_enter Tryz.func124, Tryz.ntmps124
  go_wp2
  go_rounds 9
  go_ret
  exact ⟨rfl, rfl⟩
theorem convB1 (p0 : Int) (t : TypeId) (w : World) :
    (convert 73 9 (.slice (some ⟨w.heap.size, 0, none⟩) 1 1)).run Tryz.prog (w.alloc (.cells #[.int .u8 p0] t)) = .ok (.string (strOfNums [p0])) (w.alloc (.cells #[.int .u8 p0] t)) :=
  run_convert_bytes_arg _ 73 5 Tryz.underlying73 Tryz.underlying5 w.heap.size 0 1 1 [p0] rfl (fun i hi => by
    rcases i with _ | i
    · simp
    · omega) 9 Tryz.underlying9
set_option maxRecDepth 100000 in
set_option maxHeartbeats 2000000 in
theorem toB1 (n : Int) (w : World) :
    Calls Tryz.prog 146 #[.int .i64 n, .int .i64 1] w fun e w' => e = .returned (.string (strOfNums (leb n 1))) ∧ Below w.heap.size w w' := by
  have hmk : (Instr.makeSlice 73 (.int .i64 1) (.int .i64 1)).run Tryz.prog w = .ok (.slice (some ⟨w.heap.size, 0, none⟩) 1 1) (w.alloc (.cells #[.int .u8 0] 5)) := by
    have h := run_make_row' (P := Tryz.prog) 73 5 _ 1 Tryz.underlying73 info_u8 rfl .i64 .i64 1 (by omega) (by omega) w
    rw [show madeCells #[Value.int IntKind.u8 0] 1 = #[.int .u8 0] from by kernel_rfl] at h
    exact h
  have hcv := convB1 (n % 256) 5 w
  have hl : leb n 1 = [n % 256] := rfl
  rw [hl]
  clear hl
  go_enter Tryz.func146, Tryz.ntmps146
  go_wp2
  go_rounds 2
  go_ret
  exact ⟨rfl, (Below.refl _ _).alloc (Nat.le_refl _) _⟩
theorem convB2 (p0 p1 : Int) (t : TypeId) (w : World) :
    (convert 73 9 (.slice (some ⟨w.heap.size, 0, none⟩) 2 2)).run Tryz.prog (w.alloc (.cells #[.int .u8 p0, .int .u8 p1] t)) = .ok (.string (strOfNums [p0, p1])) (w.alloc (.cells #[.int .u8 p0, .int .u8 p1] t)) :=
  run_convert_bytes_arg _ 73 5 Tryz.underlying73 Tryz.underlying5 w.heap.size 0 2 2 [p0, p1] rfl (fun i hi => by
    rcases i with _ | _ | i
    · simp
    · simp
    · omega) 9 Tryz.underlying9
set_option maxRecDepth 100000 in
set_option maxHeartbeats 2000000 in
theorem toB2 (n : Int) (w : World) :
    Calls Tryz.prog 146 #[.int .i64 n, .int .i64 2] w fun e w' => e = .returned (.string (strOfNums (leb n 2))) ∧ Below w.heap.size w w' := by
  have hmk : (Instr.makeSlice 73 (.int .i64 2) (.int .i64 2)).run Tryz.prog w = .ok (.slice (some ⟨w.heap.size, 0, none⟩) 2 2) (w.alloc (.cells #[.int .u8 0, .int .u8 0] 5)) := by
    have h := run_make_row' (P := Tryz.prog) 73 5 _ 1 Tryz.underlying73 info_u8 rfl .i64 .i64 2 (by omega) (by omega) w
    rw [show madeCells #[Value.int IntKind.u8 0] 2 = #[.int .u8 0, .int .u8 0] from by kernel_rfl] at h
    exact h
  have hcv := convB2 (n % 256) (n / 256 % 256) 5 w
  have hl : leb n 2 = [n % 256, n / 256 % 256] := rfl
  rw [hl]
  clear hl
  go_enter Tryz.func146, Tryz.ntmps146
  go_wp2
  go_rounds 3
  go_ret
  exact ⟨rfl, (Below.refl _ _).alloc (Nat.le_refl _) _⟩
theorem convB8 (p0 p1 p2 p3 p4 p5 p6 p7 : Int) (t : TypeId) (w : World) :
    (convert 73 9 (.slice (some ⟨w.heap.size, 0, none⟩) 8 8)).run Tryz.prog (w.alloc (.cells #[.int .u8 p0, .int .u8 p1, .int .u8 p2, .int .u8 p3, .int .u8 p4, .int .u8 p5, .int .u8 p6, .int .u8 p7] t)) = .ok (.string (strOfNums [p0, p1, p2, p3, p4, p5, p6, p7])) (w.alloc (.cells #[.int .u8 p0, .int .u8 p1, .int .u8 p2, .int .u8 p3, .int .u8 p4, .int .u8 p5, .int .u8 p6, .int .u8 p7] t)) :=
  run_convert_bytes_arg _ 73 5 Tryz.underlying73 Tryz.underlying5 w.heap.size 0 8 8 [p0, p1, p2, p3, p4, p5, p6, p7] rfl (fun i hi => by
    rcases i with _ | _ | _ | _ | _ | _ | _ | _ | i
    · simp
    · simp
    · simp
    · simp
    · simp
    · simp
    · simp
    · simp
    · omega) 9 Tryz.underlying9
set_option maxRecDepth 100000 in
set_option maxHeartbeats 2000000 in
theorem toB8 (n : Int) (w : World) :
    Calls Tryz.prog 146 #[.int .i64 n, .int .i64 8] w fun e w' => e = .returned (.string (strOfNums (leb n 8))) ∧ Below w.heap.size w w' := by
  have hmk : (Instr.makeSlice 73 (.int .i64 8) (.int .i64 8)).run Tryz.prog w = .ok (.slice (some ⟨w.heap.size, 0, none⟩) 8 8) (w.alloc (.cells #[.int .u8 0, .int .u8 0, .int .u8 0, .int .u8 0, .int .u8 0, .int .u8 0, .int .u8 0, .int .u8 0] 5)) := by
    have h := run_make_row' (P := Tryz.prog) 73 5 _ 1 Tryz.underlying73 info_u8 rfl .i64 .i64 8 (by omega) (by omega) w
    rw [show madeCells #[Value.int IntKind.u8 0] 8 = #[.int .u8 0, .int .u8 0, .int .u8 0, .int .u8 0, .int .u8 0, .int .u8 0, .int .u8 0, .int .u8 0] from by kernel_rfl] at h
    exact h
  have hcv := convB8 (n % 256) (n / 256 % 256) (n / 65536 % 256) (n / 16777216 % 256) (n / 4294967296 % 256) (n / 1099511627776 % 256) (n / 281474976710656 % 256) (n / 72057594037927936 % 256) 5 w
  have hl : leb n 8 = [n % 256, n / 256 % 256, n / 65536 % 256, n / 16777216 % 256, n / 4294967296 % 256, n / 1099511627776 % 256, n / 281474976710656 % 256, n / 72057594037927936 % 256] := rfl
  rw [hl]
  clear hl
  go_enter Tryz.func146, Tryz.ntmps146
  go_wp2
  go_rounds 9
  go_ret
  exact ⟨rfl, (Below.refl _ _).alloc (Nat.le_refl _) _⟩
end Go.Proofs.YtmmpknfkncgjpaaGreatDoor
