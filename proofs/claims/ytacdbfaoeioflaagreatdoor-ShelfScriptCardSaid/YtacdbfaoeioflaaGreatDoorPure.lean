/-
  A plate as plain data: what lasts, what waits, whether the power is gone, the order, how many calls counted; what each call answers and leaves.
-/
import Derived.Test.YtacdbfaoeioflaaGreatDoorProg
import Derived.WalkKit
import Derived.BigRegion
import Derived.Handy
import Derived.Lib.Hide
import Derived.IntWalk
import Derived.Deep.RegionWith
import Derived.Deep.RegionLaw
import Derived.Deep.RegionHeld3
import Derived.Deep.QuietTactic
import Derived.Deep.AppendLies
import Derived.Deep.OwnRows
import Derived.Deep.MidRow
import Derived.Lib.BufferWrite
import Derived.Laws.IdiomStrings
import Derived.Laws.CopyOwn
import Derived.BigQuiet
namespace Go.Proofs.YtacdbfaoeioflaaGreatDoor
open Go.RowKit

/-- A write that waits: its sector, its bytes. -/
structure Wr where
  i : Nat
  b : List UInt8
instance : Inhabited Wr := ⟨⟨0, []⟩⟩
/-- A plate. -/
structure St where
  is : List (List UInt8)
  wait : List Wr
  gone : Bool
  left : Nat
  keep : Nat
  n : Nat

/-- Bytes as a string. -/
def str (l : List UInt8) : ByteArray := ⟨l.toArray⟩
theorem str_size (l : List UInt8) : (str l).size = l.length := by simp [str, ByteArray.size]
theorem str_toList (l : List UInt8) : (str l).data.toList = l := by simp [str]
theorem str_of (s : ByteArray) : str s.data.toList = s := by cases s; simp [str]
theorem strL_inj {l k : List UInt8} (h : str l = str k) : l = k := by rw [← str_toList l, h, str_toList]
theorem str_append (l k : List UInt8) : str l ++ str k = str (l ++ k) := by
  apply ByteArray.ext; simp [str]
theorem str_extract (l : List UInt8) (a b : Nat) : (str l).extract a b = str ((l.take b).drop a) := by
  apply ByteArray.ext
  show (ByteArray.extract ⟨l.toArray⟩ a b).data = ((l.take b).drop a).toArray
  rw [ByteArray.data_extract, List.extract_toArray, List.drop_take]

def zeros (k : Nat) : List UInt8 := List.replicate k 0
/-- A text with bytes 0 behind it, up to a sector. -/
def pad (s : ByteArray) : List UInt8 := s.data.toList ++ zeros (32 - s.size)
theorem pad_length {s : ByteArray} (h : s.size ≤ 32) : (pad s).length = 32 := by
  have h1 : s.data.toList.length = s.size := by show s.data.toList.length = s.data.size; simp
  unfold pad zeros
  rw [List.length_append, List.length_replicate, h1]; omega
/-- The first k bytes of what is new, the others as they were. -/
def mix (k : Nat) (new old : List UInt8) : List UInt8 := new.take k ++ old.drop k
theorem mix_length {k : Nat} {new old : List UInt8} (hn : new.length = 32) (ho : old.length = 32) : (mix k new old).length = 32 := by
  simp [mix, hn, ho]; omega
theorem mix_all {new old : List UInt8} (hn : new.length = 32) (ho : old.length = 32) : mix 32 new old = new := by
  simp [mix, List.take_of_length_le (Nat.le_of_eq hn), List.drop_of_length_le (Nat.le_of_eq ho)]
/-- How much of the j-th write takes place. -/
def share (keep j : Nat) : Nat := keep >>> (4 * (j % 16)) % 16
def part (keep j : Nat) : Nat := if share keep j = 15 then 32 else 2 * share keep j
theorem share_lt (keep j : Nat) : share keep j < 16 := Nat.mod_lt _ (by omega)
theorem part_le (keep j : Nat) : part keep j ≤ 32 := by
  unfold part; have := share_lt keep j; split <;> omega
theorem part_even (keep j : Nat) : part keep j % 2 = 0 := by unfold part; split <;> omega

/-- What lasts when the first j writes have taken place, of the i-th one the first f i bytes. -/
def done (f : Nat → Nat) (ws : List Wr) (is : List (List UInt8)) : Nat → List (List UInt8)
  | 0 => is
  | j + 1 => match ws[j]? with
    | none => done f ws is j
    | some w => (done f ws is j).set w.i (mix (f j) w.b ((done f ws is j).getD w.i []))
theorem done_length (f : Nat → Nat) (ws : List Wr) (is : List (List UInt8)) (j : Nat) : (done f ws is j).length = is.length := by
  induction j with
  | zero => rfl
  | succ j ih => unfold done; split <;> simp [ih]
theorem done_succ {f : Nat → Nat} {ws : List Wr} {is : List (List UInt8)} {j : Nat} {w : Wr} (h : ws[j]? = some w) : done f ws is (j + 1) = (done f ws is j).set w.i (mix (f j) w.b ((done f ws is j).getD w.i [])) := by
  rw [done, h]

def crash (s : St) (keep : Nat) : St := if s.gone then s else { s with is := done (part keep) s.wait s.is s.wait.length, wait := [], gone := true, left := 0 }
/-- A call counts: was it the last one? -/
def lastC (s : St) : Bool := s.left == 1
def count (s : St) : St := if s.left = 0 then { s with n := s.n + 1 } else if s.left = 1 then crash { s with n := s.n + 1, left := 0 } s.keep else { s with n := s.n + 1, left := s.left - 1 }
def countE (s : St) : Int := if s.left = 1 then 70 else 0
def wrong (s : St) (i : Int) : Int := if s.gone then 70 else if i < 0 ∨ (s.is.length : Int) ≤ i then 71 else 0
def writeE (s : St) (i : Int) (b : ByteArray) : Int := if wrong s i ≠ 0 then wrong s i else if 32 < b.size then 11 else countE s
def add (s : St) (i : Int) (b : ByteArray) : St := { s with wait := s.wait ++ [⟨i.toNat, pad b⟩] }
def writeS (s : St) (i : Int) (b : ByteArray) : St := if wrong s i ≠ 0 ∨ 32 < b.size then s else count (add s i b)
def syncE (s : St) : Int := if s.gone ∨ s.left = 1 then 70 else 0
def whole (s : St) : St := { s with is := done (fun _ => 32) s.wait s.is s.wait.length, wait := [] }
def syncS (s : St) : St := if s.gone then s else if s.left = 1 then count s else whole (count s)
/-- The last of the first j writes that is for i, or what lasts. -/
def seen (ws : List Wr) (i : Nat) (old : List UInt8) : Nat → List UInt8
  | 0 => old
  | j + 1 => match ws[j]? with
    | none => seen ws i old j
    | some w => if w.i = i then w.b else seen ws i old j
def readB (s : St) (i : Nat) : List UInt8 := seen s.wait i (s.is.getD i []) s.wait.length
def readV (s : St) (i : Int) : List UInt8 := if wrong s i ≠ 0 then [] else readB s i.toNat
def cut (s : St) (k : Int) (keep : Nat) : St := { s with left := k.toNat, keep := keep }
def power (s : St) : St := { s with gone := false, left := 0 }
/-- How many sectors a new plate has. -/
def size0 (n : Int) : Nat := if n < 4 then 4 else if 128 < n then 128 else n.toNat
def fresh (n : Int) : St := ⟨List.replicate (size0 n) (zeros 32), [], false, 0, 0, 0⟩
theorem size0_in (n : Int) : 4 ≤ size0 n ∧ size0 n ≤ 128 := by
  unfold size0
  by_cases h1 : n < 4
  · rw [if_pos h1]; omega
  · rw [if_neg h1]
    by_cases h2 : 128 < n
    · rw [if_pos h2]; omega
    · rw [if_neg h2]; omega

/-- What holds of every plate. -/
structure Good (s : St) : Prop where
  sec : ∀ i, i < s.is.length → (s.is.getD i []).length = 32
  wt : ∀ w ∈ s.wait, w.i < s.is.length ∧ w.b.length = 32
  lo : 4 ≤ s.is.length
  hi : s.is.length ≤ 128
  lf : s.left < 9223372036854775808
  kp : s.keep < 18446744073709551616
theorem getD_set {l : List (List UInt8)} {i j : Nat} {v : List UInt8} (hi : i < l.length) : (l.set i v).getD j [] = if j = i then v else l.getD j [] := by
  simp only [List.getD_eq_getElem?_getD, List.getElem?_set]
  by_cases h : i = j
  · subst h; simp [hi]
  · rw [if_neg h, if_neg (fun e => h e.symm)]
theorem done_sec {f : Nat → Nat} {ws : List Wr} {is : List (List UInt8)} (h : ∀ i, i < is.length → (is.getD i []).length = 32) (hw : ∀ w ∈ ws, w.i < is.length ∧ w.b.length = 32) (j : Nat) :
    ∀ i, i < is.length → ((done f ws is j).getD i []).length = 32 := by
  induction j with
  | zero => exact h
  | succ j ih =>
    intro i hi
    unfold done
    split
    · exact ih i hi
    · next w hw' =>
      obtain ⟨h1, h2⟩ := hw w (List.mem_of_getElem? hw')
      rw [getD_set (by rw [done_length]; exact h1)]
      by_cases e : i = w.i
      · rw [if_pos e]; exact mix_length h2 (ih _ h1)
      · rw [if_neg e]; exact ih i hi
theorem Good.crash {s : St} (h : Good s) (keep : Nat) : Good (crash s keep) := by
  unfold Go.Proofs.YtacdbfaoeioflaaGreatDoor.crash
  split
  · exact h
  · refine ⟨?_, fun w hw => by simp at hw, ?_, ?_, by show 0 < _; omega, h.kp⟩
    · intro i hi; rw [show ({ s with is := _, wait := [], gone := true, left := 0 } : St).is = done (part keep) s.wait s.is s.wait.length from rfl, done_length] at hi; exact done_sec h.sec h.wt _ i hi
    · show 4 ≤ (done _ _ _ _).length; rw [done_length]; exact h.lo
    · show (done _ _ _ _).length ≤ 128; rw [done_length]; exact h.hi
theorem Good.count {s : St} (h : Good s) : Good (count s) := by
  have hl := h.lf
  unfold Go.Proofs.YtacdbfaoeioflaaGreatDoor.count
  split
  · exact ⟨h.sec, h.wt, h.lo, h.hi, h.lf, h.kp⟩
  · split
    · exact Good.crash (s := { s with n := s.n + 1, left := 0 }) ⟨h.sec, h.wt, h.lo, h.hi, by show 0 < _; omega, h.kp⟩ _
    · exact ⟨h.sec, h.wt, h.lo, h.hi, by show s.left - 1 < _; omega, h.kp⟩
theorem wrong_zero {s : St} {i : Int} (h : wrong s i = 0) : s.gone = false ∧ 0 ≤ i ∧ i < s.is.length := by
  unfold wrong at h
  split at h
  · omega
  · split at h
    · omega
    · next h1 h2 => exact ⟨by simpa using h1, by omega, by omega⟩
theorem Good.add {s : St} (h : Good s) {i : Int} {b : ByteArray} (hi : wrong s i = 0) (hb : b.size ≤ 32) : Good (add s i b) := by
  obtain ⟨-, h0, h1⟩ := wrong_zero hi
  refine ⟨h.sec, fun w hw => ?_, h.lo, h.hi, h.lf, h.kp⟩
  simp only [Go.Proofs.YtacdbfaoeioflaaGreatDoor.add, List.mem_append, List.mem_singleton] at hw
  rcases hw with hw | rfl
  · exact h.wt w hw
  · exact ⟨by show i.toNat < s.is.length; omega, pad_length hb⟩
theorem Good.write {s : St} (h : Good s) (i : Int) (b : ByteArray) : Good (writeS s i b) := by
  unfold writeS
  split
  · exact h
  · next hc => exact (h.add (by omega) (by omega)).count
theorem Good.whole {s : St} (h : Good s) : Good (whole s) := by
  refine ⟨?_, fun w hw => by simp [Go.Proofs.YtacdbfaoeioflaaGreatDoor.whole] at hw, ?_, ?_, h.lf, h.kp⟩
  · intro i hi; rw [show (Go.Proofs.YtacdbfaoeioflaaGreatDoor.whole s).is = done (fun _ => 32) s.wait s.is s.wait.length from rfl, done_length] at hi; exact done_sec h.sec h.wt _ i hi
  · show 4 ≤ (done _ _ _ _).length; rw [done_length]; exact h.lo
  · show (done _ _ _ _).length ≤ 128; rw [done_length]; exact h.hi
theorem Good.sync {s : St} (h : Good s) : Good (syncS s) := by
  unfold syncS
  split
  · exact h
  · split
    · exact h.count
    · exact h.count.whole
theorem Good.cut {s : St} (h : Good s) {k : Int} (hk : k < 9223372036854775808) {keep : Nat} (hkp : keep < 18446744073709551616) : Good (cut s k keep) :=
  ⟨h.sec, h.wt, h.lo, h.hi, by show k.toNat < _; omega, hkp⟩
theorem Good.power {s : St} (h : Good s) : Good (power s) := ⟨h.sec, h.wt, h.lo, h.hi, by show 0 < _; omega, h.kp⟩
theorem Good.fresh (n : Int) : Good (fresh n) := by
  obtain ⟨h1, h2⟩ := size0_in n
  refine ⟨fun i hi => ?_, fun w hw => by simp [Go.Proofs.YtacdbfaoeioflaaGreatDoor.fresh] at hw, by simpa [Go.Proofs.YtacdbfaoeioflaaGreatDoor.fresh] using h1, by simpa [Go.Proofs.YtacdbfaoeioflaaGreatDoor.fresh] using h2, by show 0 < _; omega, by show 0 < _; omega⟩
  simp only [Go.Proofs.YtacdbfaoeioflaaGreatDoor.fresh, List.length_replicate] at hi
  simp [Go.Proofs.YtacdbfaoeioflaaGreatDoor.fresh, List.getD_eq_getElem?_getD, hi, zeros]
theorem seen_length {ws : List Wr} {i : Nat} {old : List UInt8} (h : old.length = 32) (hw : ∀ w ∈ ws, w.b.length = 32) (j : Nat) : (seen ws i old j).length = 32 := by
  induction j with
  | zero => exact h
  | succ j ih =>
    unfold seen
    split
    · exact ih
    · next w hw' => split
                    · exact hw w (List.mem_of_getElem? hw')
                    · exact ih
theorem readB_length {s : St} (h : Good s) {i : Nat} (hi : i < s.is.length) : (readB s i).length = 32 := seen_length (h.sec i hi) (fun w hw => (h.wt w hw).2) _

/-! ### how many wait, how many counted -/
theorem crash_wait (s : St) (keep : Nat) : (crash s keep).wait.length ≤ s.wait.length := by unfold crash; split <;> simp
theorem crash_n (s : St) (keep : Nat) : (crash s keep).n = s.n := by unfold crash; split <;> rfl
theorem count_wait (s : St) : (count s).wait.length ≤ s.wait.length := by
  unfold count; split
  · exact Nat.le_refl _
  · split
    · exact crash_wait _ _
    · exact Nat.le_refl _
theorem count_n (s : St) : (count s).n = s.n + 1 := by
  unfold count; split
  · rfl
  · split
    · rw [crash_n]
    · rfl
theorem write_wait (s : St) (i : Int) (b : ByteArray) : (writeS s i b).wait.length ≤ s.wait.length + 1 := by
  unfold writeS; split
  · omega
  · refine Nat.le_trans (count_wait _) ?_; simp [add]
theorem write_n (s : St) (i : Int) (b : ByteArray) : (writeS s i b).n ≤ s.n + 1 := by
  unfold writeS; split
  · omega
  · rw [count_n]; exact Nat.le_refl _
theorem sync_wait (s : St) : (syncS s).wait.length ≤ s.wait.length := by
  unfold syncS; split
  · exact Nat.le_refl _
  · split
    · exact count_wait _
    · exact Nat.zero_le _
theorem sync_n (s : St) : (syncS s).n ≤ s.n + 1 := by
  unfold syncS; split
  · omega
  · split
    · rw [count_n]; exact Nat.le_refl _
    · show (count s).n ≤ _; rw [count_n]; exact Nat.le_refl _
end Go.Proofs.YtacdbfaoeioflaaGreatDoor
