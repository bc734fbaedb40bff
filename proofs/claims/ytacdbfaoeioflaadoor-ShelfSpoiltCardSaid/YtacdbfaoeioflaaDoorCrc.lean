/-
  Plain arithmetic of the sum: by bits and by halves it is the same; it has 32 bits; one byte that is another one makes it another one.
-/
import Derived.KernelRfl
namespace Go.Proofs.YtacdbfaoeioflaaDoor

/-- One bit goes out. -/
def step1 (c : Nat) : Nat := c / 2 ^^^ (if c % 2 = 1 then 3988292384 else 0)
/-- Half a byte goes out. -/
def step4 (c : Nat) : Nat := step1 (step1 (step1 (step1 c)))
/-- A byte goes in. -/
def stepB (c b : Nat) : Nat := step4 (step4 (c ^^^ b))
/-- What half a byte comes to. -/
def tabL : List Nat := [0, 498536548, 997073096, 651767980, 1994146192, 1802195444, 1303535960, 1342533948, 3988292384, 4027552580, 3604390888, 3412177804, 2607071920, 2262029012, 2685067896, 3183342108]
def tabH (r : Nat) : Nat := tabL.getD r 0

theorem xor_rc {a b c : Nat} (h : a ^^^ c = b ^^^ c) : a = b := by
  have h2 := congrArg (· ^^^ c) h
  simpa [Nat.xor_assoc] using h2
theorem xor_lc {a b c : Nat} (h : c ^^^ a = c ^^^ b) : a = b := by
  rw [Nat.xor_comm c a, Nat.xor_comm c b] at h
  exact xor_rc h
theorem xor_mid (a b p : Nat) : a ^^^ p ^^^ (b ^^^ p) = a ^^^ b := by
  rw [Nat.xor_assoc, Nat.xor_comm b p, ← Nat.xor_assoc p, Nat.xor_self, Nat.zero_xor]
theorem xor_odd (a b : Nat) : (a ^^^ b) % 2 = (a + b) % 2 := by
  have h := Nat.xor_mod_two_pow (a := a) (b := b) (n := 1)
  rw [Nat.pow_one] at h
  rw [h]
  rcases Nat.mod_two_eq_zero_or_one a with ha | ha <;> rcases Nat.mod_two_eq_zero_or_one b with hb | hb <;> rw [ha, hb] <;> simp <;> omega
theorem step1_xor (a b : Nat) : step1 (a ^^^ b) = step1 a ^^^ step1 b := by
  unfold step1
  have hd : (a ^^^ b) / 2 = a / 2 ^^^ b / 2 := Nat.xor_div_two
  have hm : (a ^^^ b) % 2 = (a + b) % 2 := xor_odd a b
  rw [hd, hm]
  rcases Nat.mod_two_eq_zero_or_one a with ha | ha <;> rcases Nat.mod_two_eq_zero_or_one b with hb | hb
  · rw [if_neg (by omega), if_neg (by omega), if_neg (by omega)]; simp
  · rw [if_pos (by omega), if_neg (by omega), if_pos hb]; simp [Nat.xor_assoc]
  · rw [if_pos (by omega), if_pos ha, if_neg (by omega), Nat.xor_zero, Nat.xor_assoc, Nat.xor_comm (b / 2), Nat.xor_assoc]
  · rw [if_neg (by omega), if_pos ha, if_pos hb]
    rw [Nat.xor_zero, xor_mid]
theorem step4_xor (a b : Nat) : step4 (a ^^^ b) = step4 a ^^^ step4 b := by unfold step4; simp only [step1_xor]
theorem step1_even (q : Nat) : step1 (2 * q) = q := by
  unfold step1
  rw [if_neg (by omega), Nat.mul_div_cancel_left q (by omega)]; simp
theorem step4_16 (q : Nat) : step4 (16 * q) = q := by
  unfold step4
  have e1 : 16 * q = 2 * (2 * (2 * (2 * q))) := by omega
  rw [e1, step1_even, step1_even, step1_even, step1_even]
theorem step4_low : ∀ r : Fin 16, step4 r.val = tabH r.val := by decide +kernel
theorem split16 (c : Nat) : c = 16 * (c / 16) ^^^ c % 16 := by
  apply Nat.eq_of_testBit_eq
  intro i
  have h := Nat.testBit_two_pow_mul_add (c / 16) (b := c % 16) (i := 4) (by omega) i
  have e : 2 ^ 4 * (c / 16) + c % 16 = c := by omega
  rw [e] at h
  rw [h, Nat.testBit_xor]
  have e2 : 16 * (c / 16) = 2 ^ 4 * (c / 16) := by omega
  rw [e2, Nat.testBit_two_pow_mul]
  by_cases hi : i < 4
  · simp [hi, Nat.not_le.2 hi]
  · have h4 : 4 ≤ i := by omega
    have hz : (c % 16).testBit i = false := Nat.testBit_lt_two_pow (Nat.lt_of_lt_of_le (by omega : c % 16 < 2 ^ 4) (Nat.pow_le_pow_right (by omega) h4))
    simp [hi, h4, hz]
/-- By halves it is as by bits. -/
theorem step4_tab (c : Nat) : step4 c = c / 16 ^^^ tabH (c % 16) := by
  conv => lhs; rw [split16 c]
  rw [step4_xor, step4_16, step4_low ⟨c % 16, by omega⟩]

theorem step1_lt (c : Nat) (h : c < 4294967296) : step1 c < 4294967296 := by
  unfold step1
  refine Nat.xor_lt_two_pow (n := 32) (by omega) ?_
  split <;> omega
theorem step4_lt (c : Nat) (h : c < 4294967296) : step4 c < 4294967296 := step1_lt _ (step1_lt _ (step1_lt _ (step1_lt _ h)))
theorem xor_lt (a b : Nat) (ha : a < 4294967296) (hb : b < 4294967296) : a ^^^ b < 4294967296 := Nat.xor_lt_two_pow (n := 32) (by omega) (by omega)
theorem stepB_lt (c b : Nat) (hc : c < 4294967296) (hb : b < 256) : stepB c b < 4294967296 := step4_lt _ (step4_lt _ (xor_lt _ _ hc (by omega)))
theorem tabH_lt : ∀ r : Fin 16, tabH r.val < 4294967296 := by decide +kernel

theorem step1_inj (a b : Nat) (ha : a < 4294967296) (hb : b < 4294967296) (h : step1 a = step1 b) : a = b := by
  unfold step1 at h
  have hlt : a / 2 ^^^ b / 2 < 2147483648 := Nat.xor_lt_two_pow (n := 31) (by omega) (by omega)
  by_cases ea : a % 2 = 1 <;> by_cases eb : b % 2 = 1
  · rw [if_pos ea, if_pos eb] at h
    have := xor_rc h
    omega
  · rw [if_pos ea, if_neg eb, Nat.xor_zero] at h
    rw [← h, ← Nat.xor_assoc, Nat.xor_self, Nat.zero_xor] at hlt
    omega
  · rw [if_neg ea, if_pos eb, Nat.xor_zero] at h
    rw [h, Nat.xor_comm (b / 2) 3988292384, Nat.xor_assoc, Nat.xor_self, Nat.xor_zero] at hlt
    omega
  · rw [if_neg ea, if_neg eb, Nat.xor_zero, Nat.xor_zero] at h
    omega
theorem step4_inj (a b : Nat) (ha : a < 4294967296) (hb : b < 4294967296) (h : step4 a = step4 b) : a = b :=
  step1_inj _ _ ha hb (step1_inj _ _ (step1_lt _ ha) (step1_lt _ hb) (step1_inj _ _ (step1_lt _ (step1_lt _ ha)) (step1_lt _ (step1_lt _ hb)) (step1_inj _ _ (step1_lt _ (step1_lt _ (step1_lt _ ha))) (step1_lt _ (step1_lt _ (step1_lt _ hb))) h)))
theorem stepB_xor (c d x y : Nat) (hc : c < 4294967296) (hd : d < 4294967296) (hx : x < 256) (hy : y < 256) (h : stepB c x = stepB d y) : c ^^^ x = d ^^^ y :=
  step4_inj _ _ (xor_lt _ _ hc (by omega)) (xor_lt _ _ hd (by omega)) (step4_inj _ _ (step4_lt _ (xor_lt _ _ hc (by omega))) (step4_lt _ (xor_lt _ _ hd (by omega))) h)

/-- The sum on its way, over bytes. -/
def crc (c : Nat) (l : List UInt8) : Nat := l.foldl (fun c b => stepB c b.toNat) c
theorem crc_nil (c : Nat) : crc c [] = c := rfl
theorem crc_cons (c : Nat) (x : UInt8) (l : List UInt8) : crc c (x :: l) = crc (stepB c x.toNat) l := rfl
theorem crc_append (c : Nat) (a b : List UInt8) : crc c (a ++ b) = crc (crc c a) b := by unfold crc; rw [List.foldl_append]
theorem u8_lt (x : UInt8) : x.toNat < 256 := x.toNat_lt
theorem crc_lt (l : List UInt8) : ∀ c, c < 4294967296 → crc c l < 4294967296 := by
  induction l with
  | nil => intro c h; exact h
  | cons x l ih => intro c h; rw [crc_cons]; exact ih _ (stepB_lt _ _ h (u8_lt x))
theorem crc_inj (l : List UInt8) : ∀ c d, c < 4294967296 → d < 4294967296 → crc c l = crc d l → c = d := by
  induction l with
  | nil => intro c d _ _ h; exact h
  | cons x l ih =>
    intro c d hc hd h
    rw [crc_cons, crc_cons] at h
    have := ih _ _ (stepB_lt _ _ hc (u8_lt x)) (stepB_lt _ _ hd (u8_lt x)) h
    exact xor_rc (stepB_xor _ _ _ _ hc hd (u8_lt x) (u8_lt x) this)
/-- One byte that is another one makes the sum another one. -/
theorem crc_other (c : Nat) (a d : List UInt8) (x y : UInt8) (hc : c < 4294967296) (h : crc c (a ++ x :: d) = crc c (a ++ y :: d)) : x = y := by
  rw [crc_append, crc_append, crc_cons, crc_cons] at h
  have ha := crc_lt a c hc
  have h1 := crc_inj d _ _ (stepB_lt _ _ ha (u8_lt x)) (stepB_lt _ _ ha (u8_lt y)) h
  have h2 := stepB_xor _ _ _ _ ha ha (u8_lt x) (u8_lt y) h1
  exact UInt8.toNat_inj.1 (xor_lc h2)

/-- The document's sum. -/
def sumOf (s : ByteArray) : Nat := crc 4294967295 s.data.toList ^^^ 4294967295
theorem sumOf_lt (s : ByteArray) : sumOf s < 4294967296 := xor_lt _ _ (crc_lt _ _ (by omega)) (by omega)
theorem sumOf_inj (s t : ByteArray) (h : sumOf s = sumOf t) : crc 4294967295 s.data.toList = crc 4294967295 t.data.toList := xor_rc h
end Go.Proofs.YtacdbfaoeioflaaDoor
