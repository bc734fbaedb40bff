/-
  The document's reader (weirkeepref01), by contracts: its Num.
-/
import Derived.Test.YthjinpbclfankaaGreatDoorRefNum
namespace Go.Proofs.YthjinpbclfankaaGreatDoor
open Go.RowKit Go.Extern.Stop Go.Stop Go.Extern Go.PlainAid Go.Lib

theorem bt_extract (s : ByteArray) (a i : Nat) (h : a + i < s.size) : bt (s.extract a s.size) i = bt s (a + i) := by
  have h1 : i < (s.extract a s.size).size := by simp; omega
  unfold bt
  rw [dif_pos h1, dif_pos h]
  simp [ByteArray.getElem_extract]

/-- The number that bytes i to k - 1 make. -/
def hv (s : ByteArray) (a k : Nat) : Nat → Nat → Int
  | 0, _ => 0
  | f + 1, i => if i < k then bt s (a + i) + 256 * hv s a k f (i + 1) else 0
theorem hv_fuel (s : ByteArray) (a k : Nat) : ∀ f i, k ≤ i → hv s a k f i = 0
  | 0, _, _ => rfl
  | f + 1, i, h => by simp only [hv]; rw [if_neg (by omega)]
theorem hv_enough (s : ByteArray) (a k : Nat) : ∀ f g i, k ≤ f + i → k ≤ g + i → hv s a k f i = hv s a k g i
  | 0, g, i, h, _ => by rw [hv_fuel s a k 0 i (by omega), hv_fuel s a k g i (by omega)]
  | f + 1, 0, i, _, h => by rw [hv_fuel s a k 0 i (by omega), hv_fuel s a k (f + 1) i (by omega)]
  | f + 1, g + 1, i, h, h' => by
    simp only [hv]
    split
    · rw [hv_enough s a k f g (i + 1) (by omega) (by omega)]
    · rfl
/-- From i on. -/
def hvf (s : ByteArray) (a k i : Nat) : Int := hv s a k k i
theorem hvf_end (s : ByteArray) (a k : Nat) : hvf s a k k = 0 := hv_fuel s a k k k (Nat.le_refl _)
theorem hvf_step (s : ByteArray) (a k i : Nat) (h : i < k) : hvf s a k i = hvf s a k (i + 1) * 256 + bt s (a + i) := by
  unfold hvf
  obtain ⟨f, rfl⟩ : ∃ f, k = f + 1 := ⟨k - 1, by omega⟩
  rw [show hv s a (f + 1) (f + 1) i = bt s (a + i) + 256 * hv s a (f + 1) f (i + 1) from by simp only [hv]; rw [if_pos h], hv_enough s a (f + 1) f (f + 1) (i + 1) (by omega) (by omega)]
  omega
theorem hvf_nonneg (s : ByteArray) (a k : Nat) : ∀ d i, k = i + d → 0 ≤ hvf s a k i
  | 0, i, h => by have : i = k := by omega
                  subst this; rw [hvf_end]; decide
  | d + 1, i, h => by
    rw [hvf_step s a k i (by omega)]
    have := hvf_nonneg s a k d (i + 1) (by omega)
    have := bt_nonneg s (a + i)
    omega
theorem lev_hvf (s : ByteArray) (a k : Nat) (hk : a + k ≤ s.size) : ∀ m, m ≤ k → lev (s.extract a s.size) m + 256 ^ m * hvf s a k m = hvf s a k 0
  | 0, _ => by simp [lev]
  | m + 1, h => by
    have ih := lev_hvf s a k hk m (by omega)
    rw [hvf_step s a k m (by omega)] at ih
    simp only [lev]
    rw [bt_extract s a m (by omega)]
    have e : (256 : Int) ^ (m + 1) = 256 ^ m * 256 := Int.pow_succ _ _
    rw [e, ← ih, Int.mul_add, Int.mul_comm (bt s (a + m)), Int.mul_assoc, Int.mul_comm (hvf s a k (m + 1)) 256]
    omega
theorem hvf_lev (s : ByteArray) (a k : Nat) (hk : a + k ≤ s.size) : hvf s a k 0 = lev (s.extract a s.size) k := by
  have := lev_hvf s a k hk k (Nat.le_refl _)
  rw [hvf_end] at this
  omega
theorem hvf_mono (s : ByteArray) (a k : Nat) : ∀ i, i ≤ k → hvf s a k i ≤ hvf s a k 0
  | 0, _ => Int.le_refl _
  | i + 1, h => by
    have ih := hvf_mono s a k i (by omega)
    have st := hvf_step s a k i (by omega)
    have := hvf_nonneg s a k (k - (i + 1)) (i + 1) (by omega)
    have := bt_nonneg s (a + i)
    omega
end Go.Proofs.YthjinpbclfankaaGreatDoor
