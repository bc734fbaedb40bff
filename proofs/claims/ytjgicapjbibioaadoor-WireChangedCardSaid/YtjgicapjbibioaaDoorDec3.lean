/-
  Decode (package wire), by a contract: the message that bytes are, or their errors, as a function of the bytes.
-/
import Derived.Test.YtjgicapjbibioaaDoorSteps
namespace Go.Proofs.YtjgicapjbibioaaDoor
open Go.RowKit Go.Lib Go.PlainAid

@[reducible] def M.zero : M := ⟨0, 0, 0, 0, 0, 0, 0, ⟨#[]⟩⟩
/-- What is read behind i steps. -/
def mAt (t : ByteArray) : Nat → M
  | 0 => M.zero
  | i + 1 => if i < 7 then (mAt t i).set i (numV t i) else if i = 7 then { mAt t i with data := textV t } else mAt t i
/-- Where the reader stands behind i steps. -/
def rAt (t : ByteArray) (i : Nat) : Nat := if i ≤ 7 then pos i else 25 + (tL t).toNat
/-- The message that bytes are. -/
def msgOf (t : ByteArray) : M := ⟨numV t 0, numV t 1, numV t 2, numV t 3, numV t 4, numV t 5, numV t 6, textV t⟩
theorem mAt_num (t : ByteArray) (i : Nat) (h : i < 7) : mAt t (i + 1) = (mAt t i).set i (numV t i) := if_pos h
theorem mAt_8 (t : ByteArray) : mAt t 8 = { mAt t 7 with data := textV t } := by rw [mAt, if_neg (by omega), if_pos rfl]
theorem mAt_msg (t : ByteArray) : mAt t 8 = msgOf t := by
  rw [mAt_8, mAt_num t 6 (by omega), mAt_num t 5 (by omega), mAt_num t 4 (by omega), mAt_num t 3 (by omega), mAt_num t 2 (by omega), mAt_num t 1 (by omega), mAt_num t 0 (by omega)]
  rfl
theorem mAt_9 (t : ByteArray) : mAt t 9 = mAt t 8 := by rw [mAt, if_neg (by omega), if_neg (by omega)]
theorem mAt_10 (t : ByteArray) : mAt t 10 = mAt t 9 := by rw [mAt, if_neg (by omega), if_neg (by omega)]
theorem rAt_num (t : ByteArray) (i : Nat) (h : i ≤ 7) : rAt t i = pos i := if_pos h
theorem rAt_more (t : ByteArray) (i : Nat) (h : 7 < i) : rAt t i = 25 + (tL t).toNat := if_neg (by omega)
/-- The error of step i. -/
def stepE (t : ByteArray) (i : Nat) : List Int := if i < 7 then numE t i else if i = 7 then textE t else if i = 8 then endE t else errOf (msgOf t).chk
theorem stepE_num {t : ByteArray} {i : Nat} (h : i < 7) : stepE t i = numE t i := if_pos h
theorem stepE_7 (t : ByteArray) : stepE t 7 = textE t := by unfold stepE; rw [if_neg (by omega), if_pos rfl]
theorem stepE_8 (t : ByteArray) : stepE t 8 = endE t := by unfold stepE; rw [if_neg (by omega), if_neg (by omega), if_pos rfl]
theorem stepE_9 (t : ByteArray) : stepE t 9 = errOf (msgOf t).chk := by unfold stepE; rw [if_neg (by omega), if_neg (by omega), if_neg (by omega)]
/-- The first of n errors from i on. -/
def firstE (f : Nat → List Int) : Nat → Nat → List Int
  | 0, _ => []
  | n + 1, i => if f i = [] then firstE f n (i + 1) else f i
theorem firstE_at (f : Nat → List Int) (k : Nat) (hk : f k ≠ []) : ∀ n i, i ≤ k → k < i + n → (∀ j, i ≤ j → j < k → f j = []) → firstE f n i = f k
  | 0, i, h1, h2, _ => by omega
  | n + 1, i, h1, h2, h3 => by
    unfold firstE
    by_cases e : i = k
    · subst e; rw [if_neg hk]
    · rw [if_pos (h3 i (Nat.le_refl _) (by omega))]
      exact firstE_at f k hk n (i + 1) (by omega) (by omega) (fun j hj hjk => h3 j (by omega) hjk)
theorem firstE_none (f : Nat → List Int) : ∀ n i, (∀ j, i ≤ j → j < i + n → f j = []) → firstE f n i = []
  | 0, _, _ => rfl
  | n + 1, i, h => by
    unfold firstE
    rw [if_pos (h i (Nat.le_refl _) (by omega))]
    exact firstE_none f n (i + 1) (fun j hj hjn => h j (by omega) (by omega))
theorem firstE_all (f : Nat → List Int) : ∀ n i, firstE f n i = [] → ∀ j, i ≤ j → j < i + n → f j = []
  | 0, i, _, j, h1, h2 => by omega
  | n + 1, i, h, j, h1, h2 => by
    unfold firstE at h
    by_cases e : f i = []
    · rw [if_pos e] at h
      by_cases hj : j = i
      · subst hj; exact e
      · exact firstE_all f n (i + 1) h j (by omega) (by omega)
    · rw [if_neg e] at h; exact absurd h e
def decE (t : ByteArray) : List Int := firstE (stepE t) 10 0
theorem decE_at {t : ByteArray} {k : Nat} (hk : k < 10) (h : stepE t k ≠ []) (ha : ∀ j, j < k → stepE t j = []) : decE t = stepE t k := firstE_at _ k h 10 0 (by omega) (by omega) (fun j _ hj => ha j hj)
theorem decE_none {t : ByteArray} (ha : ∀ j, j < 10 → stepE t j = []) : decE t = [] := firstE_none _ 10 0 (fun j _ hj => ha j (by omega))
theorem decE_all {t : ByteArray} (h : decE t = []) : ∀ j, j < 10 → stepE t j = [] := fun j hj => firstE_all _ 10 0 h j (by omega) (by omega)
/-- What is decoded: the message; the errors. -/
def decOf (s : ByteArray) : M × List Int :=
  if (openOf s).2 = true then (if decE (openOf s).1 = [] then (msgOf (openOf s).1, []) else (M.zero, 30 :: decE (openOf s).1)) else (M.zero, [20])

theorem numE_ok {t : ByteArray} {i : Nat} (h : numE t i = []) : pos (i + 1) ≤ t.size ∧ numV t i ≤ 9223372036854775807 := by
  unfold numE at h
  split at h
  · cases h
  · split at h
    · cases h
    · exact ⟨by omega, by omega⟩

theorem MB.eight {w : World} {D : Nat} {m0 : M} (h : MB w D m0) (m : M) : MB ((((((((w.setCell ⟨D, 0, none⟩ (.int .i64 m.kind)).setCell ⟨D, 1, none⟩ (.int .i64 m.src)).setCell ⟨D, 2, none⟩ (.int .i64 m.dst)).setCell ⟨D, 3, none⟩ (.int .i64 m.epoch)).setCell ⟨D, 4, none⟩ (.int .i64 m.seq)).setCell ⟨D, 5, none⟩ (.int .i64 m.off)).setCell ⟨D, 6, none⟩ (.int .i64 m.len)).setCell ⟨D, 7, none⟩ (.string m.data)) D m := by
  have h1 : MB _ D ⟨m.kind, m0.src, m0.dst, m0.epoch, m0.seq, m0.off, m0.len, m0.data⟩ := h.set 0 (by omega) m.kind
  have h2 : MB _ D ⟨m.kind, m.src, m0.dst, m0.epoch, m0.seq, m0.off, m0.len, m0.data⟩ := h1.set 1 (by omega) m.src
  have h3 : MB _ D ⟨m.kind, m.src, m.dst, m0.epoch, m0.seq, m0.off, m0.len, m0.data⟩ := h2.set 2 (by omega) m.dst
  have h4 : MB _ D ⟨m.kind, m.src, m.dst, m.epoch, m0.seq, m0.off, m0.len, m0.data⟩ := h3.set 3 (by omega) m.epoch
  have h5 : MB _ D ⟨m.kind, m.src, m.dst, m.epoch, m.seq, m0.off, m0.len, m0.data⟩ := h4.set 4 (by omega) m.seq
  have h6 : MB _ D ⟨m.kind, m.src, m.dst, m.epoch, m.seq, m.off, m0.len, m0.data⟩ := h5.set 5 (by omega) m.off
  have h7 : MB _ D ⟨m.kind, m.src, m.dst, m.epoch, m.seq, m.off, m.len, m0.data⟩ := h6.set 6 (by omega) m.len
  exact h7.data m.data
theorem Chained.eight {w : World} {D : Nat} {m0 : M} (h : MB w D m0) (m : M) {es : List Int} {v : Value} (hc : Chained w v es) : Chained ((((((((w.setCell ⟨D, 0, none⟩ (.int .i64 m.kind)).setCell ⟨D, 1, none⟩ (.int .i64 m.src)).setCell ⟨D, 2, none⟩ (.int .i64 m.dst)).setCell ⟨D, 3, none⟩ (.int .i64 m.epoch)).setCell ⟨D, 4, none⟩ (.int .i64 m.seq)).setCell ⟨D, 5, none⟩ (.int .i64 m.off)).setCell ⟨D, 6, none⟩ (.int .i64 m.len)).setCell ⟨D, 7, none⟩ (.string m.data)) v es := by
  have h1 := h.set 0 (by omega) m.kind
  have h2 := h1.set 1 (by omega) m.src
  have h3 := h2.set 2 (by omega) m.dst
  have h4 := h3.set 3 (by omega) m.epoch
  have h5 := h4.set 4 (by omega) m.seq
  have h6 := h5.set 5 (by omega) m.off
  have h7 := h6.set 6 (by omega) m.len
  exact (((((((hc.setMsg h 0 _).setMsg h1 1 _).setMsg h2 2 _).setMsg h3 3 _).setMsg h4 4 _).setMsg h5 5 _).setMsg h6 6 _).setMsg h7 7 _
theorem below_eight {B : Nat} {w0 w : World} {D : Nat} (h : Below B w0 w) (hD : B ≤ D) (m : M) : Below B w0 ((((((((w.setCell ⟨D, 0, none⟩ (.int .i64 m.kind)).setCell ⟨D, 1, none⟩ (.int .i64 m.src)).setCell ⟨D, 2, none⟩ (.int .i64 m.dst)).setCell ⟨D, 3, none⟩ (.int .i64 m.epoch)).setCell ⟨D, 4, none⟩ (.int .i64 m.seq)).setCell ⟨D, 5, none⟩ (.int .i64 m.off)).setCell ⟨D, 6, none⟩ (.int .i64 m.len)).setCell ⟨D, 7, none⟩ (.string m.data)) :=
  (((((((h.setCell hD _).setCell hD _).setCell hD _).setCell hD _).setCell hD _).setCell hD _).setCell hD _).setCell hD _

set_option maxRecDepth 100000 in
set_option maxHeartbeats 4000000 in
theorem decode_no (s : ByteArray) (w : World) (hT : Tab w) (hs : s.size ≤ 1000000) (ho : (openOf s).2 = false) :
    Calls Tryd.prog 12 #[.string s] w fun e w' => ∃ v, e = .returned (.tuple #[M.zero.val, v]) ∧ Chained w' v [20] ∧ Below w.heap.size w w' := by
  have HT := Lib.hid (hT.below ((Below.refl w.heap.size w).alloc (Nat.le_refl _) (.cells M.zero.cells 23)))
  have HB0 := Lib.hid (show Below w.heap.size w (w.alloc (.cells M.zero.cells 23)) from (Below.refl _ _).alloc (Nat.le_refl _) _)
  have HD0 := Lib.hid (MB.fresh w M.zero)
  have HO := Lib.hid (fun W h => open_any s W h (by omega))
  rw [ho] at HO
  clear hT
  go_enter Tryd.func12, Tryd.ntmps12
  go_wp2_with fail
  go_at_call 29
  refine (HO.out _ HT.out).mono ?_
  rintro e w1 ⟨rfl, hb1⟩
  have HD1 := Lib.hid (HD0.out.below hb1)
  have HB1 := Lib.hid (HB0.out.trans (hb1.mono HB0.out.size))
  clear HD0 HB0 HT HO hb1
  go_wp2_with fail
  go_at_call 30
  refine (wrap_new 20 0 .nilIface [] _ (by decide) rfl).mono ?_
  rintro e w2 ⟨v, rfl, hc, hb2⟩
  have HD2 := Lib.hid (HD1.out.below hb2)
  have HB2 := Lib.hid (HB1.out.trans (hb2.mono HB1.out.size))
  have HC := Lib.hid hc
  clear hb2 hc HD1 HB1
  obtain ⟨c0, c1, c2, c3, c4, c5, c6, c7⟩ := HD2.out.mat.all
  have f0 := HD2.out.free 0
  have f1 := HD2.out.free 1
  have f2 := HD2.out.free 2
  have f3 := HD2.out.free 3
  have f4 := HD2.out.free 4
  have f5 := HD2.out.free 5
  have f6 := HD2.out.free 6
  have f7 := HD2.out.free 7
  go_wp2
  have hS := HD2.out.eight M.zero
  obtain ⟨k0, k1, k2, k3, k4, k5, k6, k7⟩ := hS.mat.all
  have HCS := Lib.hid (HC.out.eight HD2.out M.zero)
  have HBS := Lib.hid (below_eight HB2.out (Nat.le_refl _) M.zero)
  clear c0 c1 c2 c3 c4 c5 c6 c7 f0 f1 f2 f3 f4 f5 f6 f7 hS HD2
  refine bodyPost_ret (v := .tuple #[M.zero.val, v]) (by simp [results, Tryd.results12, go_sem, k0, k1, k2, k3, k4, k5, k6, k7]) rfl ⟨v, rfl, HCS.out, HBS.out⟩
end Go.Proofs.YtjgicapjbibioaaDoor
