/-
  What is opened, as a function of the bytes: what was sealed; one byte that is another one: nothing.
-/
import Derived.Test.YtmmpknfkncgjpaaGreatDoorM16
namespace Go.Proofs.YtmmpknfkncgjpaaGreatDoor
open Go.RowKit

theorem app_left (a b : ByteArray) : (a ++ b).extract 0 a.size = a := by
  apply ByteArray.ext
  simp [ByteArray.data_extract, ByteArray.data_append]
theorem app_right (a b : ByteArray) : (a ++ b).extract a.size (a ++ b).size = b := by
  apply ByteArray.ext
  rw [ByteArray.data_extract, ByteArray.data_append, ByteArray.size_append]
  have h : (a.data ++ b.data).extract a.data.size (a.data.size + b.data.size) = b.data.extract 0 b.data.size := Array.extract_append_right
  rw [Array.extract_size] at h
  exact h
theorem parts (s : ByteArray) (n : Nat) : s.extract 0 n ++ s.extract n s.size = s := by
  apply ByteArray.ext
  simp
theorem app_inj {a b c d : ByteArray} (hs : b.size = d.size) (h : a ++ b = c ++ d) : a = c ∧ b = d := by
  have hz := congrArg ByteArray.size h
  rw [ByteArray.size_append, ByteArray.size_append] at hz
  have ea : a.size = c.size := by omega
  refine ⟨?_, ?_⟩
  · rw [← app_left a b, h, ea, app_left]
  · rw [← app_right a b, h, ea, app_right]
theorem app_cut {a b s : ByteArray} {n : Nat} (hn : s.size = n + b.size) (h : a ++ b = s) : s.extract 0 n = a ∧ s.extract n s.size = b := by
  subst h
  rw [ByteArray.size_append] at hn
  obtain rfl : a.size = n := by omega
  exact ⟨app_left a b, app_right a b⟩

/-- What is opened, and whether. -/
def openOf (s : ByteArray) : ByteArray × Bool :=
  if 4 ≤ s.size ∧ s.extract (s.size - 4) s.size = four (sumOf (s.extract 0 (s.size - 4))) then (s.extract 0 (s.size - 4), true) else (ByteArray.empty, false)
theorem openOf_no (s : ByteArray) (h : ∀ t, s ≠ t ++ four (sumOf t)) : openOf s = (ByteArray.empty, false) := by
  unfold openOf
  rw [if_neg]
  rintro ⟨h4, he⟩
  apply h (s.extract 0 (s.size - 4))
  rw [← he, parts s _]
theorem openOf_yes (t : ByteArray) : openOf (t ++ four (sumOf t)) = (t, true) := by
  have hz : (t ++ four (sumOf t)).size = t.size + 4 := by rw [ByteArray.size_append, four_size]
  obtain ⟨h1, h2⟩ := app_cut (n := t.size) (by rw [hz, four_size]) (rfl : t ++ four (sumOf t) = t ++ four (sumOf t))
  have e : (t ++ four (sumOf t)).size - 4 = t.size := by omega
  unfold openOf
  rw [e, h1, h2, if_pos ⟨by omega, rfl⟩]

theorem open_any (s : ByteArray) (w : World) (hT : Tab w) (hs : s.size ≤ 1000000000000) :
    Calls Tryz.prog 123 #[.string s] w fun e w' => e = .returned (.tuple #[.string (openOf s).1, .bool (openOf s).2]) ∧ Below w.heap.size w w' := by
  unfold openOf
  by_cases h4 : 4 ≤ s.size
  · by_cases he : s.extract (s.size - 4) s.size = four (sumOf (s.extract 0 (s.size - 4)))
    · rw [if_pos ⟨h4, he⟩]; exact open_yes s _ w hT hs (by omega) he
    · rw [if_neg (fun h => he h.2)]; exact open_no s _ w hT hs (by omega) he
  · rw [if_neg (fun h => h4 h.1)]; exact open_few s w (by omega)
theorem u8_of {a b : Nat} (ha : a < 256) (hb : b < 256) (h : UInt8.ofNat a = UInt8.ofNat b) : a = b := by
  have := congrArg UInt8.toNat h
  rw [UInt8.toNat_ofNat', UInt8.toNat_ofNat'] at this
  omega
theorem four_inj (m n : Nat) (hm : m < 4294967296) (hn : n < 4294967296) (h : four m = four n) : m = n := by
  have h' := congrArg (fun s : ByteArray => s.data.toList) h
  simp only [four, List.cons.injEq, and_true] at h'
  obtain ⟨h0, h1, h2, h3⟩ := h'
  have h0 := u8_of (by omega) (by omega) h0
  have h1 := u8_of (by omega) (by omega) h1
  have h2 := u8_of (by omega) (by omega) h2
  have h3 := u8_of (by omega) (by omega) h3
  omega

theorem set_parts {l a d : List UInt8} {x : UInt8} (y : UInt8) (h : l = a ++ x :: d) : l.take a.length ++ y :: l.drop (a.length + 1) = a ++ y :: d := by
  subst h; simp

/-- Sealed bytes of which one is another one are not opened. -/
theorem openOf_other (s : ByteArray) (k : Nat) (x y : UInt8) (r : ByteArray) (hk : k < (s ++ four (sumOf s)).size) (hx : (s ++ four (sumOf s)).data.toList[k]? = some x) (hxy : x ≠ y)
    (hr : r.data.toList = (s ++ four (sumOf s)).data.toList.take k ++ y :: (s ++ four (sumOf s)).data.toList.drop (k + 1)) : openOf r = (ByteArray.empty, false) := by
  apply openOf_no
  intro t ht
  have hl : (s ++ four (sumOf s)).data.toList = s.data.toList ++ (four (sumOf s)).data.toList := by simp [ByteArray.data_append]
  have htl : r.data.toList = t.data.toList ++ (four (sumOf t)).data.toList := by rw [ht]; simp [ByteArray.data_append]
  have f4 : ∀ n, (four n).data.toList.length = 4 := fun _ => rfl
  rw [hl] at hr hx
  rw [htl] at hr
  have hsz : s.data.toList.length = s.size := rfl
  have htz : t.data.toList.length = t.size := rfl
  rw [ByteArray.size_append, four_size] at hk
  have hlen := congrArg List.length hr
  simp only [List.length_append, f4, List.length_take, List.length_cons, List.length_drop, hsz, htz] at hlen
  have hst : t.data.toList.length = s.data.toList.length := by rw [hsz, htz]; omega
  by_cases hin : k < s.size
  · have hk' : k < s.data.toList.length := hin
    rw [List.take_append_of_le_length (by omega), List.drop_append_of_le_length (by omega), ← List.cons_append, ← List.append_assoc] at hr
    obtain ⟨e1, e2⟩ := List.append_inj hr (by simp only [List.length_append, List.length_take, List.length_cons, List.length_drop]; omega)
    have hf : four (sumOf t) = four (sumOf s) := ByteArray.ext (Array.toList_inj.1 e2)
    have hsum := sumOf_inj _ _ (four_inj _ _ (sumOf_lt t) (sumOf_lt s) hf)
    have hs' : s.data.toList = s.data.toList.take k ++ x :: s.data.toList.drop (k + 1) := by
      rw [List.getElem?_append_left hk', List.getElem?_eq_getElem hk', Option.some.injEq] at hx
      rw [← hx, ← List.drop_eq_getElem_cons hk', List.take_append_drop]
    rw [e1] at hsum
    conv at hsum => rhs; rw [hs']
    exact hxy (crc_other _ _ _ _ _ (by omega) hsum).symm
  · have hge : s.data.toList.length ≤ k := by omega
    rw [List.take_append, List.take_of_length_le hge, List.append_assoc] at hr
    obtain ⟨e1, e2⟩ := List.append_inj hr hst
    have e1' : t = s := ByteArray.ext (Array.toList_inj.1 e1)
    subst e1'
    have hx2 : (four (sumOf t)).data.toList[k - t.data.toList.length]? = some x := by rw [← List.getElem?_append_right hge]; exact hx
    rw [e2, List.getElem?_append_right (by rw [List.length_take, f4]; omega), List.length_take, f4] at hx2
    have : k - t.data.toList.length - min (k - t.data.toList.length) 4 = 0 := by omega
    rw [this] at hx2
    simp at hx2
    exact hxy hx2.symm
end Go.Proofs.YtmmpknfkncgjpaaGreatDoor
