/-
  Plain arithmetic of the sum: by bits and by halves it is the same; it has 32 bits; one byte that is another one makes it another one.

  A running sum takes a byte (package check), by a contract.

  The sum of a text (package check), by a contract: it is the document's.

  The document's own sum (weirkeepref02), by a contract.

  The bytes that are behind a text (package check), by a contract; the document's own.

  Open (package check), by contracts; the document's own.
-/
import Derived.KernelRfl
import Derived.Test.YtmmpknfkncgjpaaGreatDoorProg
import Derived.WalkKit
import Derived.Handy
import Derived.BigRegion
import Derived.Lib.Hide
import Derived.Laws.BitsAllLaws
import Derived.Lib.LaidTab
import Derived.Laws.BytesArg
import Derived.Deep.RegionHeld3
import Derived.Deep.QuietTactic
import Derived.BigQuiet
import Derived.WalkSmall
namespace Go.Proofs.YtmmpknfkncgjpaaGreatDoor

/-- One bit goes out. -/
def step1 (c : Nat) : Nat := c / 2 ^^^ (if c % 2 = 1 then 3988292384 else 0)
/-- Half a byte goes out. -/
def step4 (c : Nat) : Nat := step1 (step1 (step1 (step1 c)))
/-- A byte goes in. -/
def stepB (c b : Nat) : Nat := step4 (step4 (c ^^^ b))
/-- What half a byte comes to. -/
def tabL : List Nat := [0, 498536548, 997073096, 651767980, 1994146192, 1802195444, 1303535960, 1342533948, 3988292384, 4027552580, 3604390888, 3412177804, 2607071920, 2262029012, 2685067896, 3183342108]
def tabH (r : Nat) : Nat := tabL.getD r 0

theorem xor_rc {a b c : Nat} (h : a ^^^ c = b ^^^ c) : a = b := by
  have h2 := congrArg (· ^^^ c) h
  simpa [Nat.xor_assoc] using h2
theorem xor_lc {a b c : Nat} (h : c ^^^ a = c ^^^ b) : a = b := by
  rw [Nat.xor_comm c a, Nat.xor_comm c b] at h
  exact xor_rc h
theorem xor_mid (a b p : Nat) : a ^^^ p ^^^ (b ^^^ p) = a ^^^ b := by
  rw [Nat.xor_assoc, Nat.xor_comm b p, ← Nat.xor_assoc p, Nat.xor_self, Nat.zero_xor]
theorem xor_odd (a b : Nat) : (a ^^^ b) % 2 = (a + b) % 2 := by
  have h := Nat.xor_mod_two_pow (a := a) (b := b) (n := 1)
  rw [Nat.pow_one] at h
  rw [h]
  rcases Nat.mod_two_eq_zero_or_one a with ha | ha <;> rcases Nat.mod_two_eq_zero_or_one b with hb | hb <;> rw [ha, hb] <;> simp <;> omega
theorem step1_xor (a b : Nat) : step1 (a ^^^ b) = step1 a ^^^ step1 b := by
  unfold step1
  have hd : (a ^^^ b) / 2 = a / 2 ^^^ b / 2 := Nat.xor_div_two
  have hm : (a ^^^ b) % 2 = (a + b) % 2 := xor_odd a b
  rw [hd, hm]
  rcases Nat.mod_two_eq_zero_or_one a with ha | ha <;> rcases Nat.mod_two_eq_zero_or_one b with hb | hb
  · rw [if_neg (by omega), if_neg (by omega), if_neg (by omega)]; simp
  · rw [if_pos (by omega), if_neg (by omega), if_pos hb]; simp [Nat.xor_assoc]
  · rw [if_pos (by omega), if_pos ha, if_neg (by omega), Nat.xor_zero, Nat.xor_assoc, Nat.xor_comm (b / 2), Nat.xor_assoc]
  · rw [if_neg (by omega), if_pos ha, if_pos hb]
    rw [Nat.xor_zero, xor_mid]
theorem step4_xor (a b : Nat) : step4 (a ^^^ b) = step4 a ^^^ step4 b := by unfold step4; simp only [step1_xor]
theorem step1_even (q : Nat) : step1 (2 * q) = q := by
  unfold step1
  rw [if_neg (by omega), Nat.mul_div_cancel_left q (by omega)]; simp
theorem step4_16 (q : Nat) : step4 (16 * q) = q := by
  unfold step4
  have e1 : 16 * q = 2 * (2 * (2 * (2 * q))) := by omega
  rw [e1, step1_even, step1_even, step1_even, step1_even]
theorem step4_low : ∀ r : Fin 16, step4 r.val = tabH r.val := by decide +kernel
theorem split16 (c : Nat) : c = 16 * (c / 16) ^^^ c % 16 := by
  apply Nat.eq_of_testBit_eq
  intro i
  have h := Nat.testBit_two_pow_mul_add (c / 16) (b := c % 16) (i := 4) (by omega) i
  have e : 2 ^ 4 * (c / 16) + c % 16 = c := by omega
  rw [e] at h
  rw [h, Nat.testBit_xor]
  have e2 : 16 * (c / 16) = 2 ^ 4 * (c / 16) := by omega
  rw [e2, Nat.testBit_two_pow_mul]
  by_cases hi : i < 4
  · simp [hi, Nat.not_le.2 hi]
  · have h4 : 4 ≤ i := by omega
    have hz : (c % 16).testBit i = false := Nat.testBit_lt_two_pow (Nat.lt_of_lt_of_le (by omega : c % 16 < 2 ^ 4) (Nat.pow_le_pow_right (by omega) h4))
    simp [hi, h4, hz]
/-- By halves it is as by bits. -/
theorem step4_tab (c : Nat) : step4 c = c / 16 ^^^ tabH (c % 16) := by
  conv => lhs; rw [split16 c]
  rw [step4_xor, step4_16, step4_low ⟨c % 16, by omega⟩]

theorem step1_lt (c : Nat) (h : c < 4294967296) : step1 c < 4294967296 := by
  unfold step1
  refine Nat.xor_lt_two_pow (n := 32) (by omega) ?_
  split <;> omega
theorem step4_lt (c : Nat) (h : c < 4294967296) : step4 c < 4294967296 := step1_lt _ (step1_lt _ (step1_lt _ (step1_lt _ h)))
theorem xor_lt (a b : Nat) (ha : a < 4294967296) (hb : b < 4294967296) : a ^^^ b < 4294967296 := Nat.xor_lt_two_pow (n := 32) (by omega) (by omega)
theorem stepB_lt (c b : Nat) (hc : c < 4294967296) (hb : b < 256) : stepB c b < 4294967296 := step4_lt _ (step4_lt _ (xor_lt _ _ hc (by omega)))
theorem tabH_lt : ∀ r : Fin 16, tabH r.val < 4294967296 := by decide +kernel

theorem step1_inj (a b : Nat) (ha : a < 4294967296) (hb : b < 4294967296) (h : step1 a = step1 b) : a = b := by
  unfold step1 at h
  have hlt : a / 2 ^^^ b / 2 < 2147483648 := Nat.xor_lt_two_pow (n := 31) (by omega) (by omega)
  by_cases ea : a % 2 = 1 <;> by_cases eb : b % 2 = 1
  · rw [if_pos ea, if_pos eb] at h
    have := xor_rc h
    omega
  · rw [if_pos ea, if_neg eb, Nat.xor_zero] at h
    rw [← h, ← Nat.xor_assoc, Nat.xor_self, Nat.zero_xor] at hlt
    omega
  · rw [if_neg ea, if_pos eb, Nat.xor_zero] at h
    rw [h, Nat.xor_comm (b / 2) 3988292384, Nat.xor_assoc, Nat.xor_self, Nat.xor_zero] at hlt
    omega
  · rw [if_neg ea, if_neg eb, Nat.xor_zero, Nat.xor_zero] at h
    omega
theorem step4_inj (a b : Nat) (ha : a < 4294967296) (hb : b < 4294967296) (h : step4 a = step4 b) : a = b :=
  step1_inj _ _ ha hb (step1_inj _ _ (step1_lt _ ha) (step1_lt _ hb) (step1_inj _ _ (step1_lt _ (step1_lt _ ha)) (step1_lt _ (step1_lt _ hb)) (step1_inj _ _ (step1_lt _ (step1_lt _ (step1_lt _ ha))) (step1_lt _ (step1_lt _ (step1_lt _ hb))) h)))
theorem stepB_xor (c d x y : Nat) (hc : c < 4294967296) (hd : d < 4294967296) (hx : x < 256) (hy : y < 256) (h : stepB c x = stepB d y) : c ^^^ x = d ^^^ y :=
  step4_inj _ _ (xor_lt _ _ hc (by omega)) (xor_lt _ _ hd (by omega)) (step4_inj _ _ (step4_lt _ (xor_lt _ _ hc (by omega))) (step4_lt _ (xor_lt _ _ hd (by omega))) h)

/-- The sum on its way, over bytes. -/
def crc (c : Nat) (l : List UInt8) : Nat := l.foldl (fun c b => stepB c b.toNat) c
theorem crc_nil (c : Nat) : crc c [] = c := rfl
theorem crc_cons (c : Nat) (x : UInt8) (l : List UInt8) : crc c (x :: l) = crc (stepB c x.toNat) l := rfl
theorem crc_append (c : Nat) (a b : List UInt8) : crc c (a ++ b) = crc (crc c a) b := by unfold crc; rw [List.foldl_append]
theorem u8_lt (x : UInt8) : x.toNat < 256 := x.toNat_lt
theorem crc_lt (l : List UInt8) : ∀ c, c < 4294967296 → crc c l < 4294967296 := by
  induction l with
  | nil => intro c h; exact h
  | cons x l ih => intro c h; rw [crc_cons]; exact ih _ (stepB_lt _ _ h (u8_lt x))
theorem crc_inj (l : List UInt8) : ∀ c d, c < 4294967296 → d < 4294967296 → crc c l = crc d l → c = d := by
  induction l with
  | nil => intro c d _ _ h; exact h
  | cons x l ih =>
    intro c d hc hd h
    rw [crc_cons, crc_cons] at h
    have := ih _ _ (stepB_lt _ _ hc (u8_lt x)) (stepB_lt _ _ hd (u8_lt x)) h
    exact xor_rc (stepB_xor _ _ _ _ hc hd (u8_lt x) (u8_lt x) this)
/-- One byte that is another one makes the sum another one. -/
theorem crc_other (c : Nat) (a d : List UInt8) (x y : UInt8) (hc : c < 4294967296) (h : crc c (a ++ x :: d) = crc c (a ++ y :: d)) : x = y := by
  rw [crc_append, crc_append, crc_cons, crc_cons] at h
  have ha := crc_lt a c hc
  have h1 := crc_inj d _ _ (stepB_lt _ _ ha (u8_lt x)) (stepB_lt _ _ ha (u8_lt y)) h
  have h2 := stepB_xor _ _ _ _ ha ha (u8_lt x) (u8_lt y) h1
  exact UInt8.toNat_inj.1 (xor_lc h2)

/-- The document's sum. -/
def sumOf (s : ByteArray) : Nat := crc 4294967295 s.data.toList ^^^ 4294967295
theorem sumOf_lt (s : ByteArray) : sumOf s < 4294967296 := xor_lt _ _ (crc_lt _ _ (by omega)) (by omega)
theorem sumOf_inj (s t : ByteArray) (h : sumOf s = sumOf t) : crc 4294967295 s.data.toList = crc 4294967295 t.data.toList := xor_rc h
end Go.Proofs.YtmmpknfkncgjpaaGreatDoor

namespace Go.Proofs.YtmmpknfkncgjpaaGreatDoor
open Go.RowKit

/-- The table lies as it is written out. -/
def Tab (w : World) : Prop := ∀ i, i < 16 → w.cell? ⟨1, i, none⟩ = some (.int .u32 (tabH i : Int))

/-- From w to w' only block b has turned. -/
structure One (b : Nat) (w w' : World) : Prop where
  os : w'.os = w.os
  tape : w'.tape = w.tape
  output : w'.output = w.output
  size : w.heap.size = w'.heap.size
  block : ∀ k, k ≠ b → w'.heap[k]? = w.heap[k]?

theorem One.refl (b : Nat) (w : World) : One b w w := ⟨rfl, rfl, rfl, rfl, fun _ _ => rfl⟩
theorem One.trans {b : Nat} {u v w : World} (h : One b u v) (k : One b v w) : One b u w :=
  ⟨k.os.trans h.os, k.tape.trans h.tape, k.output.trans h.output, h.size.trans k.size, fun i hi => (k.block i hi).trans (h.block i hi)⟩
theorem One.set (b o : Nat) (w : World) (v : Value) : One b w (w.setCell ⟨b, o, none⟩ v) :=
  ⟨rfl, rfl, rfl, by simp [World.setCell], fun k hk => Below.heap_setCell _ _ _ _ hk⟩
theorem One.drew {b : Nat} {u w : World} (h : One b u w) : One b u w.drew := ⟨h.os, h.tape, h.output, h.size, h.block⟩
theorem One.cell {b : Nat} {w w' : World} (h : One b w w') {p : Addr} (hp : p.block ≠ b) : w'.cell? p = w.cell? p := World.cell?_of_block (w := w) (h.block p.block hp)
theorem One.below {b B : Nat} {u w : World} (h : One b u w) (hB : B ≤ b) : Below B u w := ⟨h.os, h.tape, h.output, Nat.le_of_eq h.size, fun k hk => h.block k (by omega)⟩
theorem cell_in {w : World} {b o : Nat} {v : Value} (h : w.cell? ⟨b, o, none⟩ = some v) : b < w.heap.size := by
  rcases Nat.lt_or_ge b w.heap.size with h1 | h1
  · exact h1
  · simp [World.cell?, Array.getElem?_eq_none h1] at h
theorem Tab.one {b : Nat} {w w' : World} (hT : Tab w) (h : One b w w') (hb : b ≠ 1) : Tab w' := fun i hi => (h.cell (p := ⟨1, i, none⟩) (fun e => hb e.symm)).trans (hT i hi)
theorem Tab.below {w w' : World} (hT : Tab w) (h : Below w.heap.size w w') : Tab w' := fun i hi => (h.cell (p := ⟨1, i, none⟩) (cell_in (hT i hi))).trans (hT i hi)

theorem and15 (y : Nat) (h : y < 4294967296) : bits .and .u32 (y : Int) 15 = ((y % 16 : Nat) : Int) := by
  have := u32_and_nat y 15 h (by omega)
  rw [show ((15 : Nat) : Int) = 15 from rfl] at this
  rw [this]
  exact congrArg _ (Nat.and_two_pow_sub_one_eq_mod y 4)
theorem half_xor (y : Nat) (h : y < 4294967296) : bits .xor .u32 ((y : Int) / 16) (tabH (y % 16) : Int) = (step4 y : Int) := by
  have e : ((y : Int) / 16) = ((y / 16 : Nat) : Int) := by omega
  rw [e, u32_xor_nat _ _ (by omega) (tabH_lt ⟨y % 16, by omega⟩), step4_tab]

set_option maxRecDepth 100000 in
set_option maxHeartbeats 1000000 in
theorem take_any (b c x : Nat) (w : World) (hT : Tab w) (hb : b ≠ 1) (hc : w.cell? ⟨b, 0, none⟩ = some (.int .u32 (c : Int))) (hf : w.frozen? ⟨b, 0, none⟩ = false) (hc1 : c < 4294967296) (hx : x < 256) :
    Calls Tryz.prog 182 #[.pointer (some ⟨b, 0, none⟩), .int .u8 (x : Int)] w fun e w' => e = .returned (.tuple #[]) ∧
      w'.cell? ⟨b, 0, none⟩ = some (.int .u32 (stepB c x : Int)) ∧ w'.frozen? ⟨b, 0, none⟩ = false ∧ One b w w' := by
  have e1 := u32_xor_nat c x hc1 (by omega)
  have HT := Lib.hid hT
  have HE := Lib.hid (show stepB c x = step4 (step4 (c ^^^ x)) from rfl)
  have hy1 := xor_lt c x hc1 (by omega)
  generalize c ^^^ x = y at e1 HE hy1
  clear hT
  go_enter Tryz.func182, Tryz.ntmps182
  go_wp2
  have H1 := Lib.hid (One.set b 0 w (.int .u32 (y : Int)))
  have hc' : (w.setCell ⟨b, 0, none⟩ (.int .u32 (y : Int))).cell? ⟨b, 0, none⟩ = some (.int .u32 (y : Int)) := World.cell?_setCell_same _ _ _ hc
  have hf' : (w.setCell ⟨b, 0, none⟩ (.int .u32 (y : Int))).frozen? ⟨b, 0, none⟩ = false := by rw [World.frozen?_setCell]; exact hf
  generalize w.setCell ⟨b, 0, none⟩ (.int .u32 (y : Int)) = w1 at H1 hc' hf' ⊢
  have HT1 := Lib.hid (HT.out.one H1.out hb)
  have ea := and15 y hy1
  have ex := half_xor y hy1
  have hcell := HT1.out (y % 16) (by omega)
  have hr : ((y % 16 : Nat) : Int) < 16 := by omega
  have hz1 := step4_lt y hy1
  clear e1 hc hf
  generalize tabH (y % 16) = t at ex hcell
  generalize y % 16 = r at ea hr hcell
  generalize step4 y = z at HE ex hz1
  go_region
  have H2 := Lib.hid (H1.out.trans (One.set b 0 w1 (.int .u32 (z : Int))).drew)
  have hc2 : (w1.setCell ⟨b, 0, none⟩ (.int .u32 (z : Int))).drew.cell? ⟨b, 0, none⟩ = some (.int .u32 (z : Int)) := World.cell?_setCell_same _ _ _ hc'
  have hf2 : (w1.setCell ⟨b, 0, none⟩ (.int .u32 (z : Int))).drew.frozen? ⟨b, 0, none⟩ = false := (World.frozen?_setCell _ _ _ _).trans hf'
  generalize (w1.setCell ⟨b, 0, none⟩ (.int .u32 (z : Int))).drew = w2 at H2 hc2 hf2 ⊢
  have HT2 := Lib.hid (HT.out.one H2.out hb)
  clear ea hr hcell ex hc' hf'
  have ea := and15 z hz1
  have ex := half_xor z hz1
  have hcell := HT2.out (z % 16) (by omega)
  have hr : ((z % 16 : Nat) : Int) < 16 := by omega
  generalize tabH (z % 16) = t2 at ex hcell
  generalize z % 16 = r2 at ea hr hcell
  generalize step4 z = u at HE ex
  go_wp2
  go_region
  have H3 := Lib.hid (H2.out.trans (One.set b 0 w2 (.int .u32 (u : Int))).drew)
  have hc3 : (w2.setCell ⟨b, 0, none⟩ (.int .u32 (u : Int))).drew.cell? ⟨b, 0, none⟩ = some (.int .u32 (u : Int)) := World.cell?_setCell_same _ _ _ hc2
  have hf3 : (w2.setCell ⟨b, 0, none⟩ (.int .u32 (u : Int))).drew.frozen? ⟨b, 0, none⟩ = false := (World.frozen?_setCell _ _ _ _).trans hf2
  generalize (w2.setCell ⟨b, 0, none⟩ (.int .u32 (u : Int))).drew = w3 at H3 hc3 hf3 ⊢
  go_end0
  exact ⟨rfl, by rw [HE.out]; exact hc3, hf3, H3.out⟩
end Go.Proofs.YtmmpknfkncgjpaaGreatDoor

namespace Go.Proofs.YtmmpknfkncgjpaaGreatDoor
open Go.RowKit

theorem take_snoc (s : ByteArray) (k : Nat) (h : k < s.size) : s.data.toList.take (k + 1) = s.data.toList.take k ++ [s[k]] := by
  rw [List.take_succ_eq_append_getElem (by simpa using h)]; rfl
theorem crc_snoc (s : ByteArray) (k : Nat) (h : k < s.size) : crc 4294967295 (s.data.toList.take (k + 1)) = stepB (crc 4294967295 (s.data.toList.take k)) s[k].toNat := by
  rw [take_snoc s k h, crc_append]; rfl
theorem take_all (s : ByteArray) (k : Nat) (h : ¬ k < s.size) : s.data.toList.take k = s.data.toList := List.take_of_length_le (by have : s.data.toList.length = s.size := rfl; omega)

theorem ret_u32 {k : IntKind} {a b : Int} (h : a = b) : Ending.returned (.int k a) = .returned (.int k b) := by rw [h]
theorem not_sum (s : ByteArray) : bits .xor .u32 IntKind.u32.max (crc 4294967295 s.data.toList : Int) = (sumOf s : Int) := by
  have h := u32_xor_nat 4294967295 (crc 4294967295 s.data.toList) (by omega) (crc_lt _ _ (by omega))
  have e : IntKind.u32.max = ((4294967295 : Nat) : Int) := by decide
  rw [e, h, Nat.xor_comm]; rfl

set_option maxRecDepth 100000 in
set_option maxHeartbeats 1000000 in
theorem sum_any (s : ByteArray) (w : World) (hT : Tab w) (hs : s.size ≤ 1000000000000) :
    Calls Tryz.prog 169 #[.string s] w fun e w' => e = .returned (.int .u32 (sumOf s : Int)) ∧ Below w.heap.size w w' := by
  have HT := Lib.hid hT
  have hG : w.heap.size ≠ 1 := by have := cell_in (hT 0 (by omega)); omega
  clear hT
  go_enter Tryz.func169, Tryz.ntmps169
  go_wp2
  go_loopw [10] (fun i wr => ∃ k : Nat, k ≤ s.size ∧ i = .int .i64 k ∧ wr.cell? ⟨w.heap.size, 0, none⟩ = some (.int .u32 (crc 4294967295 (s.data.toList.take k) : Int)) ∧ wr.frozen? ⟨w.heap.size, 0, none⟩ = false ∧ Below w.heap.size w wr) (fun i _ => s.size - (intOf i).toNat)
  case atStart =>
    exact ⟨0, Nat.zero_le _, rfl, by simp [crc_nil], by simp, (Below.refl _ _).alloc (Nat.le_refl _) _⟩
  case round =>
    obtain ⟨k, hk, rfl, hc, hf, hb⟩ := hrel
    by_cases hlt : k < s.size
    · have HC := Lib.hid hc
      have HF := Lib.hid hf
      have HB := Lib.hid hb
      have HW := Lib.hid (HT.out.below hb)
      have HL := Lib.hid (crc_lt (s.data.toList.take k) 4294967295 (by omega))
      clear hc hf hb
      go_wp2_with fail
      go_at_call 182
      refine (take_any w.heap.size _ _ wr HW.out hG HC.out HF.out HL.out (u8_lt _)).mono ?_
      rintro e w1 ⟨rfl, hc1, hf1, ho1⟩
      have HC1 := Lib.hid hc1
      have HF1 := Lib.hid hf1
      have HB1 := Lib.hid (HB.out.trans (ho1.below (Nat.le_refl _)))
      clear hc1 hf1 ho1
      go_wp2
      go_roundw
      case rel => exact ⟨k + 1, by omega, by go_num, by rw [crc_snoc s k hlt]; exact HC1.out, HF1.out, HB1.out⟩
      case measure => simp [intOf]; omega
    · rw [take_all s k hlt] at hc
      have HB := Lib.hid hb
      clear hb
      go_wp2
      go_ret
      exact ⟨ret_u32 (not_sum s), HB.out⟩
end Go.Proofs.YtmmpknfkncgjpaaGreatDoor

namespace Go.Proofs.YtmmpknfkncgjpaaGreatDoor
open Go.RowKit

/-- Some bits go out. -/
def stepN : Nat → Nat → Nat
  | 0, y => y
  | j + 1, y => step1 (stepN j y)
theorem stepN_lt (y : Nat) (h : y < 4294967296) : ∀ j, stepN j y < 4294967296
  | 0 => h
  | j + 1 => step1_lt _ (stepN_lt y h j)
theorem step1_even' (d : Nat) (h : ((d : Int) % 2 == 1) = false) : step1 d = d / 2 := by
  unfold step1
  have h1 : ¬ (d : Int) % 2 = 1 := by simpa using h
  rw [if_neg (by omega)]; simp
theorem step1_odd (d : Nat) (hd : d < 4294967296) (h : ((d : Int) % 2 == 1) = true) : bits .xor .u32 ((d : Int) / 2) 3988292384 = (step1 d : Int) := by
  have h1 : (d : Int) % 2 = 1 := by simpa using h
  have e := u32_xor_nat (d / 2) 3988292384 (by omega) (by omega)
  unfold step1
  rw [if_pos (by omega), ← e]; rfl

theorem xor_sum (s : ByteArray) : bits .xor .u32 (crc 4294967295 s.data.toList : Int) 4294967295 = (sumOf s : Int) :=
  u32_xor_nat (crc 4294967295 s.data.toList) 4294967295 (crc_lt _ _ (by omega)) (by omega)

set_option maxRecDepth 100000 in
set_option maxHeartbeats 1000000 in
theorem rsum_any (s : ByteArray) (w : World) (hs : s.size ≤ 1000000000000) :
    Calls Tryz.prog 153 #[.string s] w fun e w' => e = .returned (.int .u32 (sumOf s : Int)) ∧ w = w' := by
  go_enter Tryz.func153, Tryz.ntmps153
  go_wp2
  go_loop [3, 4] (fun c i => ∃ k : Nat, k ≤ s.size ∧ i = .int .i64 k ∧ c = .int .u32 (crc 4294967295 (s.data.toList.take k) : Int)) (fun _ i => s.size - (intOf i).toNat)
  case atStart => exact ⟨0, Nat.zero_le _, rfl, by simp [crc_nil]⟩
  case round =>
    obtain ⟨k, hk, rfl, rfl⟩ := hrel
    by_cases hlt : k < s.size
    · have HS := Lib.hid (crc_snoc s k hlt)
      have h8 := u8_lt s[k]
      have hl := crc_lt (s.data.toList.take k) 4294967295 (by omega)
      have hx := u32_xor_nat _ s[k].toNat hl (by have := u8_lt s[k]; omega)
      have hy := xor_lt _ s[k].toNat hl (by have := u8_lt s[k]; omega)
      go_wp2
      have HE := Lib.hid (show stepB (crc 4294967295 (s.data.toList.take k)) s[k].toNat = stepN 8 (crc 4294967295 (s.data.toList.take k) ^^^ s[k].toNat) from rfl)
      generalize crc 4294967295 (s.data.toList.take k) ^^^ s[k].toNat = y at hx hy HE ⊢
      clear hx hl
      go_loop [3, 5] (fun c j => ∃ m : Nat, m ≤ 8 ∧ j = .int .i64 m ∧ c = .int .u32 (stepN m y : Int)) (fun _ j => 8 - (intOf j).toNat)
      case atStart => exact ⟨0, by omega, rfl, rfl⟩
      case round =>
        obtain ⟨m, hm, rfl, rfl⟩ := hrel
        have hd := stepN_lt y hy m
        by_cases hm8 : m < 8
        · have HN := Lib.hid (show stepN (m + 1) y = step1 (stepN m y) from rfl)
          generalize stepN m y = d at HN hd ⊢
          by_cases ho : ((d : Int) % 2 == 1) = true
          · have hx := step1_odd d hd ho
            go_wp2
            go_round
            case rel => exact ⟨m + 1, by omega, by go_num, by rw [HN.out]⟩
            case measure => simp [intOf]; omega
          · have ho' : ((d : Int) % 2 == 1) = false := by simpa using ho
            have HX := Lib.hid (step1_even' d ho')
            clear ho
            go_wp2
            go_round
            case rel => exact ⟨m + 1, by omega, by go_num, by rw [HN.out, HX.out]; go_num⟩
            case measure => simp [intOf]; omega
        · obtain rfl : m = 8 := by omega
          go_wp2
          go_round
          case rel => exact ⟨k + 1, by omega, by go_num, by rw [HS.out, HE.out]⟩
          case measure => simp [intOf]; omega
    · rw [take_all s k hlt]
      go_wp2
      go_ret
      exact ⟨ret_u32 (xor_sum s), rfl⟩
end Go.Proofs.YtmmpknfkncgjpaaGreatDoor

namespace Go.Proofs.YtmmpknfkncgjpaaGreatDoor
open Go.RowKit

/-- A sum's four bytes, the lowest one first. -/
def four (n : Nat) : ByteArray := ⟨#[UInt8.ofNat (n % 256), UInt8.ofNat (n / 256 % 256), UInt8.ofNat (n / 65536 % 256), UInt8.ofNat (n / 16777216 % 256)]⟩
theorem four_str (n : Nat) : strOfNums [(n : Int) % 256, (n : Int) / 256 % 256, (n : Int) / 65536 % 256, (n : Int) / 16777216 % 256] = four n := by
  simp only [strOfNums, List.map, four]
  congr 1
theorem four_str' (n : Nat) (h : n < 4294967296) : strOfNums [(n : Int) % 256, (n : Int) / 256 % 256, (n : Int) / 65536 % 256, (n : Int) / 16777216] = four n := by
  rw [← four_str n]
  have e : (n : Int) / 16777216 % 256 = (n : Int) / 16777216 := by omega
  rw [e]
theorem conv4 (p0 p1 p2 p3 : Int) (t : TypeId) (w : World) :
    (convert 73 9 (.slice (some ⟨w.heap.size, 0, none⟩) 4 4)).run Tryz.prog (w.alloc (.cells #[.int .u8 p0, .int .u8 p1, .int .u8 p2, .int .u8 p3] t)) = .ok (.string (strOfNums [p0, p1, p2, p3])) (w.alloc (.cells #[.int .u8 p0, .int .u8 p1, .int .u8 p2, .int .u8 p3] t)) :=
  run_convert_bytes_arg _ 73 5 Tryz.underlying73 Tryz.underlying5 w.heap.size 0 4 4 [p0, p1, p2, p3] rfl (fun i hi => by
    rcases i with _ | _ | _ | _ | i
    · simp
    · simp
    · simp
    · simp
    · omega) 9 Tryz.underlying9

theorem four_size (n : Nat) : (four n).size = 4 := rfl
theorem conv_four (n : Nat) (h : n < 4294967296) (t : TypeId) (w : World) :
    (convert 73 9 (.slice (some ⟨w.heap.size, 0, none⟩) 4 4)).run Tryz.prog (w.alloc (.cells #[.int .u8 ((n : Int) % 256), .int .u8 ((n : Int) / 256 % 256), .int .u8 ((n : Int) / 65536 % 256), .int .u8 ((n : Int) / 16777216)] t)) = .ok (.string (four n)) (w.alloc (.cells #[.int .u8 ((n : Int) % 256), .int .u8 ((n : Int) / 256 % 256), .int .u8 ((n : Int) / 65536 % 256), .int .u8 ((n : Int) / 16777216)] t)) := by
  rw [← four_str' n h]
  exact conv4 _ _ _ _ t w

set_option maxRecDepth 100000 in
set_option maxHeartbeats 1000000 in
theorem tail_any (s : ByteArray) (w : World) (hT : Tab w) (hs : s.size ≤ 1000000000000) :
    Calls Tryz.prog 145 #[.string s] w fun e w' => e = .returned (.string (four (sumOf s))) ∧ Below w.heap.size w w' := by
  have HT := Lib.hid hT
  have hn := sumOf_lt s
  clear hT
  go_enter Tryz.func145, Tryz.ntmps145
  go_wp2_with fail
  go_at_call 169
  refine (sum_any s w HT.out hs).mono ?_
  rintro e w1 ⟨rfl, hb1⟩
  have HB1 := Lib.hid hb1
  clear hb1
  generalize hN : sumOf s = n at hn ⊢
  have HN := Lib.hid hN
  clear hN
  have hcv := conv_four n hn 247 w1
  go_wp2
  go_rounds 5
  go_ret
  exact ⟨by rw [HN.out]; rfl, HB1.out.trans (((Below.refl _ _).alloc (Nat.le_refl _) _).mono HB1.out.size)⟩

set_option maxRecDepth 100000 in
set_option maxHeartbeats 1000000 in
theorem rseal_any (s : ByteArray) (w : World) (hs : s.size ≤ 1000000000000) :
    Calls Tryz.prog 134 #[.string s] w fun e w' => e = .returned (.string (s ++ four (sumOf s))) ∧ Below w.heap.size w w' := by
  have hn := sumOf_lt s
  go_enter Tryz.func134, Tryz.ntmps134
  go_wp2_with fail
  go_at_call 153
  refine (rsum_any s w hs).mono ?_
  rintro e w1 ⟨rfl, rfl⟩
  generalize hN : sumOf s = n at hn ⊢
  have HN := Lib.hid hN
  clear hN
  have hcv := conv_four n hn 5 w
  have hz : (four n).size ≤ 4 := Nat.le_of_eq (four_size n)
  go_wp2
  go_ret
  exact ⟨by rw [HN.out]; rfl, by go_grown⟩

theorem seal_any (s : ByteArray) (w : World) (hT : Tab w) (hs : s.size ≤ 1000000000000) :
    Calls Tryz.prog 148 #[.string s] w fun e w' => e = .returned (.string (s ++ four (sumOf s))) ∧ Below w.heap.size w w' := by
  have HT := Lib.hid hT
  clear hT
  go_enter Tryz.func148, Tryz.ntmps148
  go_wp2_with fail
  go_at_call 145
  refine (tail_any s w HT.out hs).mono ?_
  rintro e w1 ⟨rfl, hb1⟩
  have HB1 := Lib.hid hb1
  clear hb1
  have hz : (four (sumOf s)).size ≤ 4 := Nat.le_of_eq (four_size _)
  go_wp2
  go_ret
  exact ⟨rfl, HB1.out⟩
end Go.Proofs.YtmmpknfkncgjpaaGreatDoor

namespace Go.Proofs.YtmmpknfkncgjpaaGreatDoor
open Go.RowKit

theorem str_inj {a b : ByteArray} (h : a.toList = b.toList) : a = b := by
  rw [ByteArray.toList_eq, ByteArray.toList_eq] at h
  exact ByteArray.ext (Array.toList_inj.1 h)
theorem str_ne {a b : ByteArray} (h : a ≠ b) : (a.toList == b.toList) = false := by
  simp only [beq_eq_false_iff_ne, ne_eq]; exact fun e => h (str_inj e)
theorem str_eq {a b : ByteArray} (h : a = b) : (a.toList == b.toList) = true := by subst h; simp

set_option maxRecDepth 100000 in
theorem open_few (s : ByteArray) (w : World) (h : s.size < 4) :
    Calls Tryz.prog 123 #[.string s] w fun e w' => e = .returned (.tuple #[.string ByteArray.empty, .bool false]) ∧ Below w.heap.size w w' := by
  have h1 : decide ((s.size : Int) - 4 < 0) = true := by simp only [decide_eq_true_eq]; omega
  have h2 : (s.size : Int) < 4 := by omega
  go_enter Tryz.func123, Tryz.ntmps123
  go_wp2
  go_quiet (fail)
  go_wp2
  go_ret2
  exact ⟨rfl, below_drewN (Below.refl _ _) _⟩

set_option maxRecDepth 100000 in
set_option maxHeartbeats 1000000 in
theorem open_no (s : ByteArray) (n : Nat) (w : World) (hT : Tab w) (hs : s.size ≤ 1000000000000) (h : s.size = n + 4) (hne : s.extract n s.size ≠ four (sumOf (s.extract 0 n))) :
    Calls Tryz.prog 123 #[.string s] w fun e w' => e = .returned (.tuple #[.string ByteArray.empty, .bool false]) ∧ Below w.heap.size w w' := by
  have HT := Lib.hid (hT.below (Below.refl _ _).drew)
  have hq : (s.size : Int) - 4 = (n : Int) := by omega
  have h1 : decide ((n : Int) < 0) = false := by simp only [decide_eq_false_iff_not]; omega
  have h2 : (n : Int) ≤ (s.size : Int) := by omega
  have hpz : (s.extract 0 n).size ≤ 1000000000000 := by rw [ByteArray.size_extract]; omega
  obtain ⟨p, hp⟩ : ∃ p, s.extract 0 n = p := ⟨_, rfl⟩
  obtain ⟨q, hQ⟩ : ∃ q, s.extract n s.size = q := ⟨_, rfl⟩
  rw [hp, hQ] at hne
  rw [hp] at hpz
  have HZ := Lib.hid hpz
  have hx := str_ne hne
  clear hT h hpz hne
  go_enter Tryz.func123, Tryz.ntmps123
  go_wp2
  go_region_held3 (fun w' => Tab w') (first | exact HT.out | exact HT1.out | fail) (first | (go_at_call 145; refine (tail_any p _ HT.out HZ.out).mono ?_; rintro e w1 ⟨rfl, hb1⟩; have HT1 := Lib.hid (HT.out.below hb1); have HB1 := Lib.hid hb1; clear hb1) | fail)
  go_wp2
  go_ret2
  exact ⟨rfl, ((Below.refl _ _).drew).trans HB1.out⟩

set_option maxRecDepth 100000 in
set_option maxHeartbeats 1000000 in
theorem open_yes (s : ByteArray) (n : Nat) (w : World) (hT : Tab w) (hs : s.size ≤ 1000000000000) (h : s.size = n + 4) (heq : s.extract n s.size = four (sumOf (s.extract 0 n))) :
    Calls Tryz.prog 123 #[.string s] w fun e w' => e = .returned (.tuple #[.string (s.extract 0 n), .bool true]) ∧ Below w.heap.size w w' := by
  have HT := Lib.hid (hT.below (Below.refl _ _).drew)
  have hq : (s.size : Int) - 4 = (n : Int) := by omega
  have h1 : decide ((n : Int) < 0) = false := by simp only [decide_eq_false_iff_not]; omega
  have h2 : (n : Int) ≤ (s.size : Int) := by omega
  have hpz : (s.extract 0 n).size ≤ 1000000000000 := by rw [ByteArray.size_extract]; omega
  obtain ⟨p, hp⟩ : ∃ p, s.extract 0 n = p := ⟨_, rfl⟩
  obtain ⟨q, hQ⟩ : ∃ q, s.extract n s.size = q := ⟨_, rfl⟩
  rw [hp, hQ] at heq
  rw [hp] at hpz
  have HZ := Lib.hid hpz
  have hx := str_eq heq
  have HP := Lib.hid hp
  clear hT h hpz heq
  go_enter Tryz.func123, Tryz.ntmps123
  go_wp2
  go_region_held3 (fun w' => Tab w') (first | exact HT.out | exact HT1.out | fail) (first | (go_at_call 145; refine (tail_any p _ HT.out HZ.out).mono ?_; rintro e w1 ⟨rfl, hb1⟩; have HT1 := Lib.hid (HT.out.below hb1); have HB1 := Lib.hid hb1; clear hb1) | fail)
  go_wp2
  go_ret2
  exact ⟨by rw [HP.out]; rfl, ((Below.refl _ _).drew).trans HB1.out⟩

end Go.Proofs.YtmmpknfkncgjpaaGreatDoor
