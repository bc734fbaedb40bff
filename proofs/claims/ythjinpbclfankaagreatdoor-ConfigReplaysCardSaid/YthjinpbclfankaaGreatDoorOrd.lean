/-
  An order as bytes, as plain data: what has room is written, nine bytes are read, and what was written is read back.
-/
import Derived.Test.YthjinpbclfankaaGreatDoorBytes
import Derived.Test.YthjinpbclfankaaGreatDoorNum5
namespace Go.Proofs.YthjinpbclfankaaGreatDoor
open Go.RowKit Go.Extern.Stop Go.Stop Go.Extern Go.PlainAid Go.Lib

def Od.fld (o : Od) : Nat → Int
  | 0 => o.k
  | 1 => o.n
  | 2 => o.m
  | 3 => o.f
  | 4 => o.t
  | _ => 0
def offs : Nat → Nat
  | 0 => 0
  | i + 1 => 2 * i + 1
theorem wid5_width (i : Nat) : Width (wid5 i) := by
  rcases i with _ | i
  · exact .inl rfl
  · exact .inr (.inl rfl)
theorem wid5_le (i : Nat) : 1 ≤ wid5 i ∧ wid5 i ≤ 2 := by
  rcases i with _ | i <;> simp [wid5]
theorem offs_succ (i : Nat) : offs (i + 1) = offs i + (wid5 i).toNat := by
  rcases i with _ | i
  · rfl
  · simp [offs, wid5]; omega
def Od.fits (o : Od) : Prop := ∀ i, i < 5 → Fits (o.fld i) (wid5 i)
def Od.pre (o : Od) : Nat → List Int
  | 0 => []
  | i + 1 => o.pre i ++ leb (o.fld i) (wid5 i).toNat
theorem Od.pre_len (o : Od) (i : Nat) : (o.pre i).length = offs i := by
  induction i with
  | zero => rfl
  | succ i ih =>
    have := wid5_le i
    rw [Od.pre, List.length_append, ih, leb_len _ _ (by omega), offs_succ]
open Classical in
noncomputable def encO (o : Od) : ByteArray × Int := if o.fits then (strOfNums (o.pre 5), 0) else (⟨#[]⟩, 1)
theorem encO_yes {o : Od} (h : o.fits) : encO o = (strOfNums (o.pre 5), 0) := if_pos h
theorem encO_no {o : Od} (h : ¬ o.fits) : encO o = (⟨#[]⟩, 1) := if_neg h
def numD (s : ByteArray) (i : Nat) : Int := lev (s.extract (offs i) s.size) (wid5 i).toNat
def decV (s : ByteArray) : Od := ⟨numD s 0, numD s 1, numD s 2, numD s 3, numD s 4⟩
def odz : Od := ⟨0, 0, 0, 0, 0⟩
def decO (s : ByteArray) : Od × Int := if s.size = 9 then (decV s, 0) else (odz, 30)
theorem decO_yes {s : ByteArray} (h : s.size = 9) : decO s = (decV s, 0) := if_pos h
theorem decO_no {s : ByteArray} (h : ¬ s.size = 9) : decO s = (odz, 30) := if_neg h
theorem numD_bounds (s : ByteArray) (i : Nat) : 0 ≤ numD s i ∧ numD s i ≤ 65535 := by
  unfold numD
  generalize s.extract (offs i) s.size = T
  have b0 := bt_nonneg T 0; have b1 := bt_nonneg T 1; have c0 := bt_le T 0; have c1 := bt_le T 1
  rcases i with _ | i
  · simp only [wid5, Int.reduceToNat, lev]; omega
  · simp only [wid5, Int.reduceToNat, lev]; omega
theorem encO_size {o : Od} : (strOfNums (o.pre 5)).size = 9 := by
  rw [strOfNums_size, o.pre_len]; rfl
theorem decV_enc {o : Od} (h : o.fits) : decV (strOfNums (o.pre 5)) = o := by
  have key : ∀ i, i < 5 → numD (strOfNums (o.pre 5)) i = o.fld i := by
    intro i hi
    unfold numD
    rw [extract_rest]
    have hb : ∀ j, Byt (leb (o.fld j) (wid5 j).toNat) := fun j => byt_leb _ _
    have e5 : o.pre 5 = leb o.k 1 ++ leb o.n 2 ++ leb o.m 2 ++ leb o.f 2 ++ leb o.t 2 := by simp [Od.pre, Od.fld, wid5]
    have hl1 : ∀ n, (leb n 1).length = 1 := fun n => leb_len n 1 (by decide)
    have hl2 : ∀ n, (leb n 2).length = 2 := fun n => leb_len n 2 (by decide)
    rcases (show i = 0 ∨ i = 1 ∨ i = 2 ∨ i = 3 ∨ i = 4 by omega) with rfl | rfl | rfl | rfl | rfl
    · have e : (o.pre 5).drop (offs 0) = leb (o.fld 0) (wid5 0).toNat ++ (leb o.n 2 ++ leb o.m 2 ++ leb o.f 2 ++ leb o.t 2) := by rw [e5]; simp [offs, Od.fld, wid5]
      rw [e]
      exact lev_leb _ _ _ (h 0 (by omega)) ((((byt_leb _ _).app (byt_leb _ _)).app (byt_leb _ _)).app (byt_leb _ _))
    · have e : (o.pre 5).drop (offs 1) = leb (o.fld 1) (wid5 1).toNat ++ (leb o.m 2 ++ leb o.f 2 ++ leb o.t 2) := by
        rw [e5, show leb o.k 1 ++ leb o.n 2 ++ leb o.m 2 ++ leb o.f 2 ++ leb o.t 2 = leb o.k 1 ++ (leb o.n 2 ++ (leb o.m 2 ++ leb o.f 2 ++ leb o.t 2)) by simp]
        rw [List.drop_left' (by rw [hl1]; rfl)]; rfl
      rw [e]
      exact lev_leb _ _ _ (h 1 (by omega)) (((byt_leb _ _).app (byt_leb _ _)).app (byt_leb _ _))
    · have e : (o.pre 5).drop (offs 2) = leb (o.fld 2) (wid5 2).toNat ++ (leb o.f 2 ++ leb o.t 2) := by
        rw [e5, show leb o.k 1 ++ leb o.n 2 ++ leb o.m 2 ++ leb o.f 2 ++ leb o.t 2 = (leb o.k 1 ++ leb o.n 2) ++ (leb o.m 2 ++ (leb o.f 2 ++ leb o.t 2)) by simp]
        rw [List.drop_left' (by rw [List.length_append, hl1, hl2]; rfl)]; rfl
      rw [e]
      exact lev_leb _ _ _ (h 2 (by omega)) ((byt_leb _ _).app (byt_leb _ _))
    · have e : (o.pre 5).drop (offs 3) = leb (o.fld 3) (wid5 3).toNat ++ leb o.t 2 := by
        rw [e5, show leb o.k 1 ++ leb o.n 2 ++ leb o.m 2 ++ leb o.f 2 ++ leb o.t 2 = (leb o.k 1 ++ leb o.n 2 ++ leb o.m 2) ++ (leb o.f 2 ++ leb o.t 2) by simp]
        rw [List.drop_left' (by rw [List.length_append, List.length_append, hl1, hl2, hl2]; rfl)]; rfl
      rw [e]
      exact lev_leb _ _ _ (h 3 (by omega)) (byt_leb _ _)
    · have e : (o.pre 5).drop (offs 4) = leb (o.fld 4) (wid5 4).toNat ++ [] := by
        rw [e5, show leb o.k 1 ++ leb o.n 2 ++ leb o.m 2 ++ leb o.f 2 ++ leb o.t 2 = (leb o.k 1 ++ leb o.n 2 ++ leb o.m 2 ++ leb o.f 2) ++ (leb o.t 2 ++ []) by simp]
        rw [List.drop_left' (by rw [List.length_append, List.length_append, List.length_append, hl1, hl2, hl2, hl2]; rfl)]; rfl
      rw [e]
      exact lev_leb _ _ _ (h 4 (by omega)) Byt.nil
  unfold decV
  rw [key 0 (by omega), key 1 (by omega), key 2 (by omega), key 3 (by omega), key 4 (by omega)]
  rfl
end Go.Proofs.YthjinpbclfankaaGreatDoor
