/-
  Ways of clocks, windows of histories, and which of them is the first one that is not fair: numbers and lists alone.
-/
import Derived.Test.YtdkkoeiceaolnaaHist
namespace Go.Proofs.Ytdkkoeiceaolnaa

/-- By how much the clock c went on in the first m rows. -/
def sm (T : Nat → Nat → Int) (c : Nat) : Nat → Int
  | 0 => 0
  | m + 1 => sm T c m + T m c
/-- .. and from row a to row b. -/
def way (T : Nat → Nat → Int) (a b c : Nat) : Int := sm T c (b + 1) - sm T c a
/-- All ticks of the first n rows count as they should. -/
def TkOk (T : Nat → Nat → Int) (n : Nat) : Prop := ∀ r, r < n → ∀ c, 0 ≤ T r c ∧ T r c ≤ 1048576
theorem sm_mono {T : Nat → Nat → Int} {n : Nat} (h : TkOk T n) {c a : Nat} : ∀ {b : Nat}, a ≤ b → b ≤ n → sm T c a ≤ sm T c b ∧ sm T c b ≤ sm T c a + 1048576 * ((b : Int) - (a : Int)) := by
  intro b hab hbn
  induction b with
  | zero => obtain rfl : a = 0 := by omega
            simp
  | succ b ih =>
    rcases Nat.lt_or_ge a (b + 1) with hl | hl
    · have h1 := ih (by omega) (by omega)
      have h2 := h b (by omega) c
      simp only [sm]
      omega
    · obtain rfl : a = b + 1 := by omega
      omega
theorem sm_bound {T : Nat → Nat → Int} {n : Nat} (h : TkOk T n) {c m : Nat} (hm : m ≤ n) (hn : n ≤ 31) : 0 ≤ sm T c m ∧ sm T c m ≤ 33554432 := by
  have := sm_mono h (c := c) (Nat.zero_le m) hm
  simp only [sm] at this
  omega
theorem way_bound {T : Nat → Nat → Int} {n : Nat} (h : TkOk T n) {a b c : Nat} (hab : a ≤ b) (hb : b < n) (hn : n ≤ 31) : 0 ≤ way T a b c ∧ way T a b c ≤ 33554432 := by
  have h1 := sm_mono h (c := c) (show a ≤ b + 1 by omega) (by omega)
  unfold way
  omega
/-- The clock i outruns the clock j from row a to row b. -/
def outr (T : Nat → Nat → Int) (num slack : Int) (a b i j : Nat) : Prop := (100 + num) * way T a b j + 100 * slack < 100 * way T a b i
instance (T : Nat → Nat → Int) (num slack : Int) (a b i j : Nat) : Decidable (outr T num slack a b i j) := by unfold outr; exact inferInstance
/-- One of the first k clocks outruns another one. -/
def Unf (T : Nat → Nat → Int) (k : Nat) (num slack : Int) (a b : Nat) : Prop := ∃ i, i < k ∧ ∃ j, j < k ∧ outr T num slack a b i j
instance (T : Nat → Nat → Int) (k : Nat) (num slack : Int) (a b : Nat) : Decidable (Unf T k num slack a b) := by unfold Unf; exact inferInstance
def unf (T : Nat → Nat → Int) (k : Nat) (num slack : Int) (a b : Nat) : Bool := decide (Unf T k num slack a b)
theorem unf_iff {T : Nat → Nat → Int} {k : Nat} {num slack : Int} {a b : Nat} : unf T k num slack a b = true ↔ Unf T k num slack a b := by simp [unf]
theorem unf_no {T : Nat → Nat → Int} {k : Nat} {num slack : Int} {a b : Nat} (h : ¬ Unf T k num slack a b) : unf T k num slack a b = false := by simp [unf, h]

/-- The windows that end at a row, the one that begins last first. -/
def winRow (t : Nat) : List (Nat × Nat) := (List.range (t + 1)).map fun k => (t - k, t)
/-- All windows of the first m rows, in their order. -/
def wins : Nat → List (Nat × Nat)
  | 0 => []
  | m + 1 => wins m ++ winRow m
/-- Those that come up to the one that begins k rows ahead of its end t. -/
def upto (t k : Nat) : List (Nat × Nat) := wins t ++ (winRow t).take k
theorem upto_zero (t : Nat) : upto t 0 = wins t := by simp [upto]
theorem upto_all (t : Nat) : upto t (t + 1) = wins (t + 1) := by
  unfold upto; rw [List.take_of_length_le (by simp [winRow])]; rfl
theorem upto_succ {t k : Nat} (h : k ≤ t) : upto t (k + 1) = upto t k ++ [(t - k, t)] := by
  unfold upto
  rw [List.append_assoc, List.take_succ_eq_append_getElem (by simp [winRow]; omega)]
  simp [winRow]
theorem wins_pre {t m : Nat} (h : t ≤ m) : wins t <+: wins m := by
  induction m with
  | zero => obtain rfl : t = 0 := by omega
            exact List.prefix_rfl
  | succ m ih =>
    rcases Nat.lt_or_ge t (m + 1) with hl | hl
    · exact (ih (by omega)).trans (List.prefix_append _ _)
    · obtain rfl : t = m + 1 := by omega
      exact List.prefix_rfl
theorem upto_pre {t k m : Nat} (h : t < m) : upto t k <+: wins m := by
  have h1 : upto t k <+: wins (t + 1) := List.prefix_append_right_inj (wins t) |>.2 (List.take_prefix _ _)
  exact h1.trans (wins_pre (by omega))
theorem mem_winRow {t : Nat} {p : Nat × Nat} : p ∈ winRow t ↔ p.1 ≤ t ∧ p.2 = t := by
  obtain ⟨a, b⟩ := p
  simp only [winRow, List.mem_map, List.mem_range, Prod.mk.injEq]
  constructor
  · rintro ⟨k, hk, rfl, rfl⟩; omega
  · rintro ⟨h1, rfl⟩; exact ⟨b - a, by omega, by omega, rfl⟩
theorem mem_wins {m : Nat} {p : Nat × Nat} : p ∈ wins m ↔ p.1 ≤ p.2 ∧ p.2 < m := by
  induction m with
  | zero => simp [wins]
  | succ m ih => rw [wins, List.mem_append, ih, mem_winRow]; omega
/-- The first window that is not fair. -/
def fst? (T : Nat → Nat → Int) (m k : Nat) (num slack : Int) : Option (Nat × Nat) := (wins m).find? fun p => unf T k num slack p.1 p.2
theorem fst_none {T : Nat → Nat → Int} {m k : Nat} {num slack : Int} (h : ∀ p ∈ wins m, ¬ Unf T k num slack p.1 p.2) : fst? T m k num slack = none := by
  unfold fst?
  rw [List.find?_eq_none]
  intro p hp
  rw [unf_iff]
  exact h p hp
theorem fst_some {T : Nat → Nat → Int} {m k : Nat} {num slack : Int} {pre : List (Nat × Nat)} {x : Nat × Nat} (hp : pre ++ [x] <+: wins m) (h : ∀ p ∈ pre, ¬ Unf T k num slack p.1 p.2) (hx : Unf T k num slack x.1 x.2) : fst? T m k num slack = some x := by
  obtain ⟨rest, hr⟩ := hp
  unfold fst?
  rw [← hr, List.append_assoc, List.find?_append, List.find?_eq_none.2 (fun p hp => by rw [unf_iff]; exact h p hp)]
  simp [unf_iff.2 hx]
/-- What Fair answers. -/
def fairV : Option (Nat × Nat) → Value
  | none => .tuple #[.int .i64 0, .int .i64 0, .bool true]
  | some (a, b) => .tuple #[.int .i64 a, .int .i64 b, .bool false]
end Go.Proofs.Ytdkkoeiceaolnaa
