/-
  A plate as plain data: what lasts, what waits, whether the power is gone, the order, how many calls counted; what each call answers and leaves.

  A plate, and the document's own, as cells; what turns of memory while one of them is called.
-/
import Derived.Test.YtmmpknfkncgjpaaGreatDoorProg
import Derived.WalkKit
import Derived.BigRegion
import Derived.Handy
import Derived.Lib.Hide
import Derived.IntWalk
import Derived.Deep.RegionWith
import Derived.Deep.RegionLaw
import Derived.Deep.RegionHeld3
import Derived.Deep.QuietTactic
import Derived.Deep.AppendLies
import Derived.Deep.OwnRows
import Derived.Deep.MidRow
import Derived.Lib.BufferWrite
import Derived.Laws.IdiomStrings
import Derived.Laws.CopyOwn
import Derived.BigQuiet
namespace Go.Proofs.YtmmpknfkncgjpaaGreatDoor
open Go.RowKit

/-- A write that waits: its sector, its bytes. -/
structure Wr where
  i : Nat
  b : List UInt8
instance : Inhabited Wr := ⟨⟨0, []⟩⟩
/-- A plate. -/
structure St where
  is : List (List UInt8)
  wait : List Wr
  gone : Bool
  left : Nat
  keep : Nat
  n : Nat

/-- Bytes as a string. -/
def str (l : List UInt8) : ByteArray := ⟨l.toArray⟩
theorem str_size (l : List UInt8) : (str l).size = l.length := by simp [str, ByteArray.size]
theorem str_toList (l : List UInt8) : (str l).data.toList = l := by simp [str]
theorem str_of (s : ByteArray) : str s.data.toList = s := by cases s; simp [str]
theorem strL_inj {l k : List UInt8} (h : str l = str k) : l = k := by rw [← str_toList l, h, str_toList]
theorem strL_append (l k : List UInt8) : str l ++ str k = str (l ++ k) := by
  apply ByteArray.ext; simp [str]
theorem str_extract (l : List UInt8) (a b : Nat) : (str l).extract a b = str ((l.take b).drop a) := by
  apply ByteArray.ext
  show (ByteArray.extract ⟨l.toArray⟩ a b).data = ((l.take b).drop a).toArray
  rw [ByteArray.data_extract, List.extract_toArray, List.drop_take]

def zeros (k : Nat) : List UInt8 := List.replicate k 0
/-- A text with bytes 0 behind it, up to a sector. -/
def pad (s : ByteArray) : List UInt8 := s.data.toList ++ zeros (32 - s.size)
theorem pad_length {s : ByteArray} (h : s.size ≤ 32) : (pad s).length = 32 := by
  have h1 : s.data.toList.length = s.size := by show s.data.toList.length = s.data.size; simp
  unfold pad zeros
  rw [List.length_append, List.length_replicate, h1]; omega
/-- The first k bytes of what is new, the others as they were. -/
def mix (k : Nat) (new old : List UInt8) : List UInt8 := new.take k ++ old.drop k
theorem mix_length {k : Nat} {new old : List UInt8} (hn : new.length = 32) (ho : old.length = 32) : (mix k new old).length = 32 := by
  simp [mix, hn, ho]; omega
theorem mix_all {new old : List UInt8} (hn : new.length = 32) (ho : old.length = 32) : mix 32 new old = new := by
  simp [mix, List.take_of_length_le (Nat.le_of_eq hn), List.drop_of_length_le (Nat.le_of_eq ho)]
/-- How much of the j-th write takes place. -/
def share (keep j : Nat) : Nat := keep >>> (4 * (j % 16)) % 16
def part (keep j : Nat) : Nat := if share keep j = 15 then 32 else 2 * share keep j
theorem share_lt (keep j : Nat) : share keep j < 16 := Nat.mod_lt _ (by omega)
theorem part_le (keep j : Nat) : part keep j ≤ 32 := by
  unfold part; have := share_lt keep j; split <;> omega
theorem part_even (keep j : Nat) : part keep j % 2 = 0 := by unfold part; split <;> omega

/-- What lasts when the first j writes have taken place, of the i-th one the first f i bytes. -/
def done (f : Nat → Nat) (ws : List Wr) (is : List (List UInt8)) : Nat → List (List UInt8)
  | 0 => is
  | j + 1 => match ws[j]? with
    | none => done f ws is j
    | some w => (done f ws is j).set w.i (mix (f j) w.b ((done f ws is j).getD w.i []))
theorem done_length (f : Nat → Nat) (ws : List Wr) (is : List (List UInt8)) (j : Nat) : (done f ws is j).length = is.length := by
  induction j with
  | zero => rfl
  | succ j ih => unfold done; split <;> simp [ih]
theorem done_succ {f : Nat → Nat} {ws : List Wr} {is : List (List UInt8)} {j : Nat} {w : Wr} (h : ws[j]? = some w) : done f ws is (j + 1) = (done f ws is j).set w.i (mix (f j) w.b ((done f ws is j).getD w.i [])) := by
  rw [done, h]

def crash (s : St) (keep : Nat) : St := if s.gone then s else { s with is := done (part keep) s.wait s.is s.wait.length, wait := [], gone := true, left := 0 }
/-- A call counts: was it the last one? -/
def lastC (s : St) : Bool := s.left == 1
def count (s : St) : St := if s.left = 0 then { s with n := s.n + 1 } else if s.left = 1 then crash { s with n := s.n + 1, left := 0 } s.keep else { s with n := s.n + 1, left := s.left - 1 }
def countE (s : St) : Int := if s.left = 1 then 70 else 0
def wrong (s : St) (i : Int) : Int := if s.gone then 70 else if i < 0 ∨ (s.is.length : Int) ≤ i then 71 else 0
def writeE (s : St) (i : Int) (b : ByteArray) : Int := if wrong s i ≠ 0 then wrong s i else if 32 < b.size then 11 else countE s
def add (s : St) (i : Int) (b : ByteArray) : St := { s with wait := s.wait ++ [⟨i.toNat, pad b⟩] }
def writeS (s : St) (i : Int) (b : ByteArray) : St := if wrong s i ≠ 0 ∨ 32 < b.size then s else count (add s i b)
def syncE (s : St) : Int := if s.gone ∨ s.left = 1 then 70 else 0
def whole (s : St) : St := { s with is := done (fun _ => 32) s.wait s.is s.wait.length, wait := [] }
def syncS (s : St) : St := if s.gone then s else if s.left = 1 then count s else whole (count s)
/-- The last of the first j writes that is for i, or what lasts. -/
def seen (ws : List Wr) (i : Nat) (old : List UInt8) : Nat → List UInt8
  | 0 => old
  | j + 1 => match ws[j]? with
    | none => seen ws i old j
    | some w => if w.i = i then w.b else seen ws i old j
def readB (s : St) (i : Nat) : List UInt8 := seen s.wait i (s.is.getD i []) s.wait.length
def readV (s : St) (i : Int) : List UInt8 := if wrong s i ≠ 0 then [] else readB s i.toNat
def cut (s : St) (k : Int) (keep : Nat) : St := { s with left := k.toNat, keep := keep }
def power (s : St) : St := { s with gone := false, left := 0 }
/-- How many sectors a new plate has. -/
def size0 (n : Int) : Nat := if n < 4 then 4 else if 128 < n then 128 else n.toNat
def fresh (n : Int) : St := ⟨List.replicate (size0 n) (zeros 32), [], false, 0, 0, 0⟩
theorem size0_in (n : Int) : 4 ≤ size0 n ∧ size0 n ≤ 128 := by
  unfold size0
  by_cases h1 : n < 4
  · rw [if_pos h1]; omega
  · rw [if_neg h1]
    by_cases h2 : 128 < n
    · rw [if_pos h2]; omega
    · rw [if_neg h2]; omega

/-- What holds of every plate. -/
structure Good (s : St) : Prop where
  sec : ∀ i, i < s.is.length → (s.is.getD i []).length = 32
  wt : ∀ w ∈ s.wait, w.i < s.is.length ∧ w.b.length = 32
  lo : 4 ≤ s.is.length
  hi : s.is.length ≤ 128
  lf : s.left < 9223372036854775808
  kp : s.keep < 18446744073709551616
theorem getD_set {l : List (List UInt8)} {i j : Nat} {v : List UInt8} (hi : i < l.length) : (l.set i v).getD j [] = if j = i then v else l.getD j [] := by
  simp only [List.getD_eq_getElem?_getD, List.getElem?_set]
  by_cases h : i = j
  · subst h; simp [hi]
  · rw [if_neg h, if_neg (fun e => h e.symm)]
theorem done_sec {f : Nat → Nat} {ws : List Wr} {is : List (List UInt8)} (h : ∀ i, i < is.length → (is.getD i []).length = 32) (hw : ∀ w ∈ ws, w.i < is.length ∧ w.b.length = 32) (j : Nat) :
    ∀ i, i < is.length → ((done f ws is j).getD i []).length = 32 := by
  induction j with
  | zero => exact h
  | succ j ih =>
    intro i hi
    unfold done
    split
    · exact ih i hi
    · next w hw' =>
      obtain ⟨h1, h2⟩ := hw w (List.mem_of_getElem? hw')
      rw [getD_set (by rw [done_length]; exact h1)]
      by_cases e : i = w.i
      · rw [if_pos e]; exact mix_length h2 (ih _ h1)
      · rw [if_neg e]; exact ih i hi
theorem Good.crash {s : St} (h : Good s) (keep : Nat) : Good (crash s keep) := by
  unfold Go.Proofs.YtmmpknfkncgjpaaGreatDoor.crash
  split
  · exact h
  · refine ⟨?_, fun w hw => by simp at hw, ?_, ?_, by show 0 < _; omega, h.kp⟩
    · intro i hi; rw [show ({ s with is := _, wait := [], gone := true, left := 0 } : St).is = done (part keep) s.wait s.is s.wait.length from rfl, done_length] at hi; exact done_sec h.sec h.wt _ i hi
    · show 4 ≤ (done _ _ _ _).length; rw [done_length]; exact h.lo
    · show (done _ _ _ _).length ≤ 128; rw [done_length]; exact h.hi
theorem Good.count {s : St} (h : Good s) : Good (count s) := by
  have hl := h.lf
  unfold Go.Proofs.YtmmpknfkncgjpaaGreatDoor.count
  split
  · exact ⟨h.sec, h.wt, h.lo, h.hi, h.lf, h.kp⟩
  · split
    · exact Good.crash (s := { s with n := s.n + 1, left := 0 }) ⟨h.sec, h.wt, h.lo, h.hi, by show 0 < _; omega, h.kp⟩ _
    · exact ⟨h.sec, h.wt, h.lo, h.hi, by show s.left - 1 < _; omega, h.kp⟩
theorem wrong_zero {s : St} {i : Int} (h : wrong s i = 0) : s.gone = false ∧ 0 ≤ i ∧ i < s.is.length := by
  unfold wrong at h
  split at h
  · omega
  · split at h
    · omega
    · next h1 h2 => exact ⟨by simpa using h1, by omega, by omega⟩
theorem Good.add {s : St} (h : Good s) {i : Int} {b : ByteArray} (hi : wrong s i = 0) (hb : b.size ≤ 32) : Good (add s i b) := by
  obtain ⟨-, h0, h1⟩ := wrong_zero hi
  refine ⟨h.sec, fun w hw => ?_, h.lo, h.hi, h.lf, h.kp⟩
  simp only [Go.Proofs.YtmmpknfkncgjpaaGreatDoor.add, List.mem_append, List.mem_singleton] at hw
  rcases hw with hw | rfl
  · exact h.wt w hw
  · exact ⟨by show i.toNat < s.is.length; omega, pad_length hb⟩
theorem Good.write {s : St} (h : Good s) (i : Int) (b : ByteArray) : Good (writeS s i b) := by
  unfold writeS
  split
  · exact h
  · next hc => exact (h.add (by omega) (by omega)).count
theorem Good.whole {s : St} (h : Good s) : Good (whole s) := by
  refine ⟨?_, fun w hw => by simp [Go.Proofs.YtmmpknfkncgjpaaGreatDoor.whole] at hw, ?_, ?_, h.lf, h.kp⟩
  · intro i hi; rw [show (Go.Proofs.YtmmpknfkncgjpaaGreatDoor.whole s).is = done (fun _ => 32) s.wait s.is s.wait.length from rfl, done_length] at hi; exact done_sec h.sec h.wt _ i hi
  · show 4 ≤ (done _ _ _ _).length; rw [done_length]; exact h.lo
  · show (done _ _ _ _).length ≤ 128; rw [done_length]; exact h.hi
theorem Good.sync {s : St} (h : Good s) : Good (syncS s) := by
  unfold syncS
  split
  · exact h
  · split
    · exact h.count
    · exact h.count.whole
theorem Good.cut {s : St} (h : Good s) {k : Int} (hk : k < 9223372036854775808) {keep : Nat} (hkp : keep < 18446744073709551616) : Good (cut s k keep) :=
  ⟨h.sec, h.wt, h.lo, h.hi, by show k.toNat < _; omega, hkp⟩
theorem Good.power {s : St} (h : Good s) : Good (power s) := ⟨h.sec, h.wt, h.lo, h.hi, by show 0 < _; omega, h.kp⟩
theorem Good.fresh (n : Int) : Good (fresh n) := by
  obtain ⟨h1, h2⟩ := size0_in n
  refine ⟨fun i hi => ?_, fun w hw => by simp [Go.Proofs.YtmmpknfkncgjpaaGreatDoor.fresh] at hw, by simpa [Go.Proofs.YtmmpknfkncgjpaaGreatDoor.fresh] using h1, by simpa [Go.Proofs.YtmmpknfkncgjpaaGreatDoor.fresh] using h2, by show 0 < _; omega, by show 0 < _; omega⟩
  simp only [Go.Proofs.YtmmpknfkncgjpaaGreatDoor.fresh, List.length_replicate] at hi
  simp [Go.Proofs.YtmmpknfkncgjpaaGreatDoor.fresh, List.getD_eq_getElem?_getD, hi, zeros]
theorem seen_length {ws : List Wr} {i : Nat} {old : List UInt8} (h : old.length = 32) (hw : ∀ w ∈ ws, w.b.length = 32) (j : Nat) : (seen ws i old j).length = 32 := by
  induction j with
  | zero => exact h
  | succ j ih =>
    unfold seen
    split
    · exact ih
    · next w hw' => split
                    · exact hw w (List.mem_of_getElem? hw')
                    · exact ih
theorem readB_length {s : St} (h : Good s) {i : Nat} (hi : i < s.is.length) : (readB s i).length = 32 := seen_length (h.sec i hi) (fun w hw => (h.wt w hw).2) _

/-! ### how many wait, how many counted -/
theorem crash_wait (s : St) (keep : Nat) : (crash s keep).wait.length ≤ s.wait.length := by unfold crash; split <;> simp
theorem crash_n (s : St) (keep : Nat) : (crash s keep).n = s.n := by unfold crash; split <;> rfl
theorem count_wait (s : St) : (count s).wait.length ≤ s.wait.length := by
  unfold count; split
  · exact Nat.le_refl _
  · split
    · exact crash_wait _ _
    · exact Nat.le_refl _
theorem count_n (s : St) : (count s).n = s.n + 1 := by
  unfold count; split
  · rfl
  · split
    · rw [crash_n]
    · rfl
theorem write_wait (s : St) (i : Int) (b : ByteArray) : (writeS s i b).wait.length ≤ s.wait.length + 1 := by
  unfold writeS; split
  · omega
  · refine Nat.le_trans (count_wait _) ?_; simp [add]
theorem write_n (s : St) (i : Int) (b : ByteArray) : (writeS s i b).n ≤ s.n + 1 := by
  unfold writeS; split
  · omega
  · rw [count_n]; exact Nat.le_refl _
theorem sync_wait (s : St) : (syncS s).wait.length ≤ s.wait.length := by
  unfold syncS; split
  · exact Nat.le_refl _
  · split
    · exact count_wait _
    · exact Nat.zero_le _
theorem sync_n (s : St) : (syncS s).n ≤ s.n + 1 := by
  unfold syncS; split
  · omega
  · split
    · rw [count_n]; exact Nat.le_refl _
    · show (count s).n ≤ _; rw [count_n]; exact Nat.le_refl _
end Go.Proofs.YtmmpknfkncgjpaaGreatDoor

namespace Go.Proofs.YtmmpknfkncgjpaaGreatDoor
open Go.RowKit

/-! ### what turns -/
/-- From w to w' nothing has turned but the blocks F, and new ones. -/
structure Keeps (F : Nat → Prop) (w w' : World) : Prop where
  os : w'.os = w.os
  tape : w'.tape = w.tape
  output : w'.output = w.output
  size : w.heap.size ≤ w'.heap.size
  block : ∀ k, k < w.heap.size → ¬ F k → w'.heap[k]? = w.heap[k]?
theorem Keeps.of_below {F : Nat → Prop} {w w' : World} (h : Below w.heap.size w w') : Keeps F w w' := ⟨h.os, h.tape, h.output, h.size, fun k hk _ => h.block k hk⟩
theorem Keeps.refl (F : Nat → Prop) (w : World) : Keeps F w w := Keeps.of_below (Below.refl _ _)
theorem Keeps.trans {F F' : Nat → Prop} {w w1 w2 : World} (h : Keeps F w w1) (k : Keeps F' w1 w2) (hF : ∀ k, F' k → F k ∨ w.heap.size ≤ k) : Keeps F w w2 :=
  ⟨k.os.trans h.os, k.tape.trans h.tape, k.output.trans h.output, Nat.le_trans h.size k.size, fun i hi hn => (k.block i (Nat.lt_of_lt_of_le hi h.size) (fun hf => by rcases hF i hf with h1 | h1 ; (exact hn h1); omega)).trans (h.block i hi hn)⟩
theorem Keeps.then_below {F : Nat → Prop} {w w1 w2 : World} (h : Keeps F w w1) (k : Below w1.heap.size w1 w2) : Keeps F w w2 := h.trans (F' := F) (Keeps.of_below k) (fun _ hf => .inl hf)
theorem Keeps.below_then {F : Nat → Prop} {w w1 w2 : World} (h : Below w.heap.size w w1) (k : Keeps F w1 w2) : Keeps F w w2 := (Keeps.of_below (F := F) h).trans k (fun _ hf => .inl hf)
theorem Keeps.set {F : Nat → Prop} {w w1 : World} (h : Keeps F w w1) {b o : Nat} (hb : F b ∨ w.heap.size ≤ b) (v : Value) : Keeps F w (w1.setCell ⟨b, o, none⟩ v) :=
  ⟨h.os, h.tape, h.output, by simp [World.setCell]; exact h.size, fun k hk hn => by rw [Below.heap_setCell _ _ _ _ (fun e => by subst e; rcases hb with hb | hb ; (exact hn hb); omega)]; exact h.block k hk hn⟩
theorem Keeps.setRow {F : Nat → Prop} {w w1 : World} (h : Keeps F w w1) {b : Nat} (hb : F b ∨ w.heap.size ≤ b) (cs : Array Value) : Keeps F w (w1.setRow b cs) :=
  ⟨h.os, h.tape, h.output, by simp [World.setRow]; exact h.size, fun k hk hn => by rw [setRow_other w1 b k cs (fun e => by subst e; rcases hb with hb | hb ; (exact hn hb); omega)]; exact h.block k hk hn⟩
theorem Keeps.grown {F : Nat → Prop} {w w1 w2 : World} {row : Option Nat} (h : Keeps F w w1) (k : w1.grownBy w2 row) (hr : ∀ g, row = some g → F g ∨ w.heap.size ≤ g) : Keeps F w w2 :=
  ⟨k.os.trans h.os, k.tape.trans h.tape, k.output.trans h.output, Nat.le_trans h.size k.size, fun i hi hn => (k.block i (Nat.lt_of_lt_of_le hi h.size) (fun e => by rcases hr i e.symm with h1 | h1 ; (exact hn h1); omega)).trans (h.block i hi hn)⟩
theorem Keeps.below {F : Nat → Prop} {B : Nat} {w0 w w' : World} (h : Keeps F w w') (hb : Below B w0 w) (hB : B ≤ w.heap.size) (hF : ∀ k, F k → B ≤ k) : Below B w0 w' :=
  ⟨h.os.trans hb.os, h.tape.trans hb.tape, h.output.trans hb.output, Nat.le_trans hb.size h.size, fun k hk => (h.block k (by omega) (fun hf => by have := hF k hf; omega)).trans (hb.block k hk)⟩
theorem Keeps.drew {F : Nat → Prop} {w w1 : World} (h : Keeps F w w1) : Keeps F w w1.drew := h.then_below ((Below.refl _ _).drew)

/-! ### rows -/
theorem owns_kept {w w' : World} {base e size n : Nat} {v : Value} {xs : List Value} (h : w.ownsRow base e size v n xs) (hb : ∀ g, v.ownBlock = some g → w'.heap[g]? = w.heap[g]?) : w'.ownsRow base e size v n xs := by
  refine ⟨h.1, ?_⟩
  rcases h.2 with hn | ⟨g, cap, cur, rfl, hbs, hgg, rest⟩
  · exact .inl hn
  · exact .inr ⟨g, cap, cur, rfl, hbs, by rw [hb g rfl]; exact hgg, rest⟩
theorem owns_lt {w : World} {base e size n : Nat} {v : Value} {xs : List Value} (h : w.ownsRow base e size v n xs) {g : Nat} (hg : v.ownBlock = some g) : g < w.heap.size := (World.ownsRow.lt h g hg).2
theorem owns_below {w w' : World} {base e size n : Nat} {v : Value} {xs : List Value} (h : w.ownsRow base e size v n xs) (hb : Below w.heap.size w w') : w'.ownsRow base e size v n xs := owns_kept h fun g hg => hb.block g (owns_lt h hg)
/-- The row's block bears its element's type. -/
theorem owns_type {w : World} {base e size n : Nat} {v : Value} {xs : List Value} (h : w.ownsRow base e size v n xs) {g : Nat} (hg : v.ownBlock = some g) : ∃ cur, w.heap[g]? = some (.cells cur e (0, 0)) := by
  rcases h.2 with ⟨rfl, _⟩ | ⟨g', cap, cur, rfl, _, hgg, _⟩
  · simp [Value.ownBlock] at hg
  · simp [Value.ownBlock] at hg; subst hg; exact ⟨cur, hgg⟩
theorem owns_ne {w : World} {base e size n : Nat} {v : Value} {xs : List Value} (h : w.ownsRow base e size v n xs) {b t m : Nat} {f : Nat → Value} (hr : w.rowIs b t m f) (ht : e ≠ t) : v.ownBlock ≠ some b := fun hg => by
  obtain ⟨cur, h1⟩ := owns_type h hg
  obtain ⟨c, h2, _⟩ := hr
  rw [h1] at h2
  simp only [Option.some.injEq, Obj.cells.injEq] at h2
  exact ht h2.2.1
theorem owns_ne2 {w : World} {base e size n : Nat} {v : Value} {xs : List Value} (h : w.ownsRow base e size v n xs) {base' e' size' n' : Nat} {v' : Value} {xs' : List Value} (h' : w.ownsRow base' e' size' v' n' xs') (ht : e ≠ e') {g : Nat} (hg : v.ownBlock = some g) : v'.ownBlock ≠ some g := fun hg' => by
  obtain ⟨cur, h1⟩ := owns_type h hg
  obtain ⟨c, h2⟩ := owns_type h' hg'
  rw [h1] at h2
  simp only [Option.some.injEq, Obj.cells.injEq] at h2
  exact ht h2.2.1

/-- The cells of a write that waits. -/
def wcells (x : Wr) : List Value := .int .i64 x.i :: Lib.byteCells x.b
theorem wcells_length {x : Wr} (h : x.b.length = 32) : (wcells x).length = 33 := by simp [wcells, Lib.byteCells_length, h]
def flat (l : List Wr) : List Value := l.flatMap wcells
theorem flat_append (l k : List Wr) : flat (l ++ k) = flat l ++ flat k := by simp [flat]
theorem flat_one (x : Wr) : flat [x] = wcells x := by simp [flat]
theorem wcells_oneCell (x : Wr) : ∀ u ∈ wcells x, u.oneCell' = true := by
  intro u hu
  simp only [wcells, List.mem_cons] at hu
  rcases hu with rfl | hu
  · rfl
  · exact Lib.byteCells_one _ u hu
theorem flat_oneCell (l : List Wr) : ∀ u ∈ flat l, u.oneCell' = true := by
  intro u hu
  simp only [flat, List.mem_flatMap] at hu
  obtain ⟨x, _, hu⟩ := hu
  exact wcells_oneCell x u hu
theorem flat_length {l : List Wr} (h : ∀ x ∈ l, x.b.length = 32) : (flat l).length = l.length * 33 := by
  induction l with
  | nil => rfl
  | cons x l ih =>
    rw [show flat (x :: l) = wcells x ++ flat l from rfl, List.length_append, wcells_length (h x (by simp)), ih (fun y hy => h y (by simp [hy]))]
    simp; omega
/-- A part of a row of blocks of one length. -/
theorem flatMap_get {α : Type} (f : α → List Value) (k : Nat) : ∀ (l : List α), (∀ x ∈ l, (f x).length = k) → ∀ (i : Nat) (x : α), l[i]? = some x → ∀ j, j < k → (l.flatMap f)[i * k + j]? = (f x)[j]?
  | [], _, i, x, h, j, hj => by simp at h
  | y :: l, hl, 0, x, h, j, hj => by
    simp at h; subst h
    rw [List.flatMap_cons, List.getElem?_append_left (by rw [hl y (by simp)]; omega)]
    congr 1; omega
  | y :: l, hl, i + 1, x, h, j, hj => by
    simp at h
    have hy := hl y (by simp)
    rw [List.flatMap_cons, List.getElem?_append_right (by rw [hy, Nat.succ_mul]; omega), hy]
    rw [show (i + 1) * k + j - k = i * k + j by rw [Nat.succ_mul]; omega]
    exact flatMap_get f k l (fun z hz => hl z (by simp [hz])) i x h j hj

/-- What a row of elements looks like: nothing, or a block in which they lie one behind the other. -/
theorem owns_form {α : Type} {f : α → List Value} {w : World} {base e size : Nat} {v : Value} {l : List α} (h : w.ownsRow base e size v l.length (l.flatMap f)) (hl : ∀ x ∈ l, (f x).length = size) :
    (v = .slice none 0 0 ∧ l = []) ∨ ∃ g cap, v = .slice (some ⟨g, 0, none⟩) l.length cap ∧ g < w.heap.size ∧ l.length ≤ cap ∧ cap ≤ maxLen ∧ ∀ i x, l[i]? = some x → w.rangeAt g (i * size) (f x) := by
  rcases h.2 with ⟨hv, h0⟩ | ⟨g, cap, cur, hv, hb, hg, hn, hm, hs, ht⟩
  · exact .inl ⟨hv, List.length_eq_zero_iff.1 h0⟩
  · refine .inr ⟨g, cap, hv, (Array.getElem?_eq_some_iff.1 hg).1, hn, hm, fun i x hi j u hu => ?_⟩
    have hil : i < l.length := (List.getElem?_eq_some_iff.1 hi).1
    have hj : j < size := by have := (List.getElem?_eq_some_iff.1 hu).1; rw [hl x (List.mem_of_getElem? hi)] at this; exact this
    have hlt : i * size + j < l.length * size := by
      have : (i + 1) * size ≤ l.length * size := Nat.mul_le_mul_right _ hil
      rw [Nat.succ_mul] at this; omega
    rw [cell_of_row w g (i * size + j) cur _ (0, 0) hg, ← hu, ← flatMap_get f size l hl i x hi j hj, ← ht, List.getElem?_take, if_pos hlt]
    simp
theorem Keeps.cell {F : Nat → Prop} {w w' : World} (h : Keeps F w w') {a : Addr} {v : Value} (hc : w.cell? a = some v) (hn : ¬ F a.block) : w'.cell? a = some v := by
  rw [World.cell?_of_block (h.block a.block (World.block_lt_of_cell? w _ hc) hn)]; exact hc
theorem Keeps.owns {F : Nat → Prop} {w w' : World} (h : Keeps F w w') {base e size n : Nat} {v : Value} {xs : List Value} (ho : w.ownsRow base e size v n xs) (hn : ∀ g, v.ownBlock = some g → ¬ F g) : w'.ownsRow base e size v n xs :=
  owns_kept ho fun g hg => h.block g (owns_lt ho hg) (hn g hg)
theorem Keeps.row {F : Nat → Prop} {w w' : World} (h : Keeps F w w') {b t n : Nat} {f : Nat → Value} (hr : w.rowIs b t n f) (hn : ¬ F b) : w'.rowIs b t n f := hr.of_block (h.block b hr.lt hn)

/-- A copy of cells into a row. -/
theorem row_copy {w : World} {b t n : Nat} {f : Nat → Value} (h : w.rowIs b t n f) (off : Nat) (cs : List Value) (hfit : off + cs.length ≤ n) :
    ∃ cur : Array Value, w.heap[b]? = some (.cells cur t (0, 0)) ∧ cur.size = n ∧ (w.setRow b (cur.toList.take off ++ (cs ++ cur.toList.drop (off + cs.length))).toArray).rowIs b t n (fun o => if o < off then f o else if h : o - off < cs.length then cs[o - off] else f o) := by
  obtain ⟨cur, hb, hn, hc⟩ := h
  refine ⟨cur, hb, hn, _, setRow_heap w b _ _ t _ hb, by simp [hn]; omega, fun i hi => ?_⟩
  have hl : (cur.toList.take off).length = off := by simp [hn]; omega
  show (List.take off cur.toList ++ (cs ++ List.drop (off + cs.length) cur.toList)).toArray[i]? = some (if i < off then f i else if h : i - off < cs.length then cs[i - off] else f i)
  rw [List.getElem?_toArray]
  by_cases h1 : i < off
  · rw [List.getElem?_append_left (by omega), List.getElem?_take, if_pos h1, if_pos h1, Array.getElem?_toList]
    exact hc i hi
  · rw [if_neg h1, List.getElem?_append_right (by omega), hl]
    by_cases h2 : i - off < cs.length
    · rw [dif_pos h2, List.getElem?_append_left h2, List.getElem?_eq_getElem h2]
    · rw [dif_neg h2, List.getElem?_append_right (by omega), List.getElem?_drop, Array.getElem?_toList]
      rw [show off + cs.length + (i - off - cs.length) = i by omega]
      exact hc i hi

/-! ### the plate -/
/-- The q-th byte of what lasts. -/
def byteAt (l : List (List UInt8)) (q : Nat) : UInt8 := (l.getD (q / 32) []).getD (q % 32) 0
def sc (l : List (List UInt8)) (q : Nat) : Value := .int .u8 ((byteAt l q).toNat : Int)
/-- The cells of a plate. -/
def pf (s : St) (L K : Nat) (v : Value) (o : Nat) : Value :=
  if o = 0 then .int .i64 (s.is.length : Int) else if o < 4097 then sc s.is (o - 1) else if o = 4097 then v else if o = 4098 then .bool s.gone else if o = 4099 then .int .i64 (s.n : Int) else if o = 4100 then .int .i64 (L : Int) else .int .u64 (K : Int)
structure PBv (w : World) (b : Nat) (s : St) (L K : Nat) (v : Value) : Prop where
  row : w.rowIs b 86 4102 (pf s L K v)
  own : w.ownsRow 0 167 33 v s.wait.length (flat s.wait)
  lf : s.gone = false → L = s.left ∧ (s.left ≠ 0 → K = s.keep)
  lt : L < 9223372036854775808
  kt : K < 18446744073709551616
theorem PBv.ne {w : World} {b : Nat} {s : St} {L K : Nat} {v : Value} (h : PBv w b s L K v) : v.ownBlock ≠ some b := owns_ne h.own h.row (by decide)
theorem PBv.cells {w : World} {b : Nat} {s : St} {L K : Nat} {v : Value} (h : PBv w b s L K v) :
    w.cell? ⟨b, 0, none⟩ = some (.int .i64 (s.is.length : Int)) ∧ w.cell? ⟨b, 4097, none⟩ = some v ∧ w.cell? ⟨b, 4098, none⟩ = some (.bool s.gone) ∧ w.cell? ⟨b, 4099, none⟩ = some (.int .i64 (s.n : Int)) ∧
    w.cell? ⟨b, 4100, none⟩ = some (.int .i64 (L : Int)) ∧ w.cell? ⟨b, 4101, none⟩ = some (.int .u64 (K : Int)) :=
  ⟨h.row.cell (by omega), h.row.cell (by omega), h.row.cell (by omega), h.row.cell (by omega), h.row.cell (by omega), h.row.cell (by omega)⟩
/-- A plate s in block b; F: the blocks that it has. -/
def PB (w : World) (b : Nat) (s : St) (F : Nat → Prop) : Prop := ∃ L K v, PBv w b s L K v ∧ ∀ k, F k ↔ (k = b ∨ v.ownBlock = some k)
theorem PB.lt {w : World} {b : Nat} {s : St} {F : Nat → Prop} (h : PB w b s F) : ∀ k, F k → k < w.heap.size := fun k hk => by
  obtain ⟨L, K, v, h1, h2⟩ := h
  rcases (h2 k).1 hk with rfl | hv
  · exact h1.row.lt
  · exact owns_lt h1.own hv
theorem PB.mem {w : World} {b : Nat} {s : St} {F : Nat → Prop} (h : PB w b s F) : F b := by
  obtain ⟨L, K, v, h1, h2⟩ := h; exact (h2 b).2 (.inl rfl)
theorem PBv.kept {w w' : World} {b : Nat} {s : St} {L K : Nat} {v : Value} (h : PBv w b s L K v) (hb : ∀ k, k = b ∨ v.ownBlock = some k → w'.heap[k]? = w.heap[k]?) : PBv w' b s L K v :=
  ⟨h.row.of_block (hb b (.inl rfl)), owns_kept h.own fun g hg => hb g (.inr hg), h.lf, h.lt, h.kt⟩
theorem PB.keeps {w w' : World} {b : Nat} {s : St} {F G : Nat → Prop} (h : PB w b s F) (hk : Keeps G w w') (hd : ∀ k, F k → ¬ G k) : PB w' b s F := by
  have hl := h.lt
  obtain ⟨L, K, v, h1, h2⟩ := h
  exact ⟨L, K, v, h1.kept fun k hk' => hk.block k (hl k ((h2 k).2 hk')) (hd k ((h2 k).2 hk')), h2⟩
theorem PB.below {w w' : World} {b : Nat} {s : St} {F : Nat → Prop} (h : PB w b s F) (hb : Below w.heap.size w w') : PB w' b s F := h.keeps (Keeps.of_below (F := fun _ => False) hb) (fun _ _ h => h)
theorem PBv.below {w w' : World} {b : Nat} {s : St} {L K : Nat} {v : Value} (h : PBv w b s L K v) (hb : Below w.heap.size w w') : PBv w' b s L K v :=
  h.kept fun k hk => hb.block k (by rcases hk with rfl | hk ; (exact h.row.lt); (exact owns_lt h.own hk))

/-! ### the document's own -/
def scells (l : List (List UInt8)) : List Value := l.flatMap fun x => [.string (str x)]
def rcells (x : Wr) : List Value := [.int .i64 (x.i : Int), .string (str x.b)]
def rf (s : St) (vi vw : Value) (o : Nat) : Value :=
  if o = 0 then vi else if o = 1 then vw else if o = 2 then .bool s.gone else if o = 3 then .int .i64 (s.left : Int) else if o = 4 then .int .u64 (s.keep : Int) else if o = 5 then .int .i64 (s.n : Int) else undef
structure RBv (w : World) (b : Nat) (s : St) (vi vw : Value) : Prop where
  row : w.rowIs b 46 6 (rf s vi vw)
  is : w.ownsRow 0 9 1 vi s.is.length (scells s.is)
  wt : w.ownsRow 0 137 2 vw s.wait.length (s.wait.flatMap rcells)
theorem RBv.cells {w : World} {b : Nat} {s : St} {vi vw : Value} (h : RBv w b s vi vw) :
    w.cell? ⟨b, 0, none⟩ = some vi ∧ w.cell? ⟨b, 1, none⟩ = some vw ∧ w.cell? ⟨b, 2, none⟩ = some (.bool s.gone) ∧ w.cell? ⟨b, 3, none⟩ = some (.int .i64 (s.left : Int)) ∧ w.cell? ⟨b, 4, none⟩ = some (.int .u64 (s.keep : Int)) ∧ w.cell? ⟨b, 5, none⟩ = some (.int .i64 (s.n : Int)) :=
  ⟨h.row.cell (by omega), h.row.cell (by omega), h.row.cell (by omega), h.row.cell (by omega), h.row.cell (by omega), h.row.cell (by omega)⟩
def RB (w : World) (b : Nat) (s : St) (F : Nat → Prop) : Prop := ∃ vi vw, RBv w b s vi vw ∧ ∀ k, F k ↔ (k = b ∨ vi.ownBlock = some k ∨ vw.ownBlock = some k)
theorem RB.lt {w : World} {b : Nat} {s : St} {F : Nat → Prop} (h : RB w b s F) : ∀ k, F k → k < w.heap.size := fun k hk => by
  obtain ⟨vi, vw, h1, h2⟩ := h
  rcases (h2 k).1 hk with rfl | hv | hv
  · exact h1.row.lt
  · exact owns_lt h1.is hv
  · exact owns_lt h1.wt hv
theorem RB.mem {w : World} {b : Nat} {s : St} {F : Nat → Prop} (h : RB w b s F) : F b := by
  obtain ⟨vi, vw, h1, h2⟩ := h; exact (h2 b).2 (.inl rfl)
theorem RBv.kept {w w' : World} {b : Nat} {s : St} {vi vw : Value} (h : RBv w b s vi vw) (hb : ∀ k, k = b ∨ vi.ownBlock = some k ∨ vw.ownBlock = some k → w'.heap[k]? = w.heap[k]?) : RBv w' b s vi vw :=
  ⟨h.row.of_block (hb b (.inl rfl)), owns_kept h.is fun g hg => hb g (.inr (.inl hg)), owns_kept h.wt fun g hg => hb g (.inr (.inr hg))⟩
theorem RB.keeps {w w' : World} {b : Nat} {s : St} {F G : Nat → Prop} (h : RB w b s F) (hk : Keeps G w w') (hd : ∀ k, F k → ¬ G k) : RB w' b s F := by
  have hl := h.lt
  obtain ⟨vi, vw, h1, h2⟩ := h
  exact ⟨vi, vw, h1.kept fun k hk' => hk.block k (hl k ((h2 k).2 hk')) (hd k ((h2 k).2 hk')), h2⟩
theorem RB.below {w w' : World} {b : Nat} {s : St} {F : Nat → Prop} (h : RB w b s F) (hb : Below w.heap.size w w') : RB w' b s F := h.keeps (Keeps.of_below (F := fun _ => False) hb) (fun _ _ h => h)
theorem RBv.below {w w' : World} {b : Nat} {s : St} {vi vw : Value} (h : RBv w b s vi vw) (hb : Below w.heap.size w w') : RBv w' b s vi vw :=
  h.kept fun k hk => hb.block k (by rcases hk with rfl | hk | hk ; (exact h.row.lt); (exact owns_lt h.is hk); (exact owns_lt h.wt hk))

/-- What a call leaves: the thing in its new blocks, all else as it was. -/
def Goes (F : Nat → Prop) (w w' : World) (Q : (Nat → Prop) → Prop) : Prop := ∃ F', Q F' ∧ (∀ k, F' k → F k ∨ w.heap.size ≤ k) ∧ Keeps F w w'
theorem Goes.trans {F : Nat → Prop} {w w1 w2 : World} {F1 : Nat → Prop} {Q : (Nat → Prop) → Prop} (h1 : ∀ k, F1 k → F k ∨ w.heap.size ≤ k) (h2 : Keeps F w w1) (h3 : Goes F1 w1 w2 Q) : Goes F w w2 Q := by
  obtain ⟨F2, hq, h4, h5⟩ := h3
  refine ⟨F2, hq, fun k hk => ?_, h2.trans h5 h1⟩
  rcases h4 k hk with h | h
  · exact h1 k h
  · exact .inr (Nat.le_trans h2.size h)
theorem Goes.same {F : Nat → Prop} {w w' : World} {Q : (Nat → Prop) → Prop} (h : Q F) (hk : Keeps F w w') : Goes F w w' Q := ⟨F, h, fun _ h => .inl h, hk⟩
end Go.Proofs.YtmmpknfkncgjpaaGreatDoor
