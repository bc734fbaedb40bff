/-
  A block's record, as plain bytes: how it is made, what is read out of it; one byte behind the mark that is another one: no record.
-/
import Derived.Test.YtacdbfaoeioflaaDoorOpened
import Derived.Test.YtacdbfaoeioflaaDoorPure
import Derived.PlainAid
import Derived.Laws.BytesArg
namespace Go.Proofs.YtacdbfaoeioflaaDoor
open Go.RowKit Go.PlainAid Go.Lib

/-! ### bytes as numbers -/
/-- The k lowest bytes of n, the lowest first. -/
def leb (n : Int) (k : Nat) : List Int :=
  [n % 256, n / 256 % 256, n / 65536 % 256, n / 16777216 % 256, n / 4294967296 % 256, n / 1099511627776 % 256, n / 281474976710656 % 256, n / 72057594037927936 % 256].take k
/-- A text's bytes, as numbers. -/
def nums (s : ByteArray) : List Int := s.data.toList.map fun c => (c.toNat : Int)
theorem nums_length (s : ByteArray) : (nums s).length = s.size := by simp [nums]
/-- The number that the first k bytes of s make, the lowest first. -/
def lev (s : ByteArray) : Nat → Int
  | 0 => 0
  | k + 1 => lev s k + bt s k * 256 ^ k
def Byt (bs : List Int) : Prop := ∀ x ∈ bs, 0 ≤ x ∧ x ≤ 255
theorem Byt.nil : Byt [] := fun _ h => by cases h
theorem Byt.app {a b : List Int} (ha : Byt a) (hb : Byt b) : Byt (a ++ b) := fun x hx => by
  rcases List.mem_append.1 hx with h | h
  · exact ha x h
  · exact hb x h
theorem byt_leb (n : Int) (k : Nat) : Byt (leb n k) := by
  intro x hx
  have hx' := List.mem_of_mem_take hx
  simp only [List.mem_cons, List.not_mem_nil, or_false] at hx'
  omega
theorem byt_nums (s : ByteArray) : Byt (nums s) := by
  intro x hx
  obtain ⟨c, _, rfl⟩ := List.mem_map.1 hx
  have := c.toNat_lt
  omega
theorem leb_len (n : Int) (k : Nat) (hk : k ≤ 8) : (leb n k).length = k := by simp [leb]; omega
theorem bt_str (bs : List Int) (h : Byt bs) (i : Nat) (hi : i < bs.length) : bt (strOfNums bs) i = bs[i] := by
  unfold bt
  have hs : i < (strOfNums bs).size := by rw [strOfNums_size]; exact hi
  rw [dif_pos hs]
  have e : (strOfNums bs)[i]'hs = UInt8.ofNat (bs[i]).toNat := by
    have h2 : (strOfNums bs).data[i]? = some (UInt8.ofNat (bs[i]).toNat) := by simp [strOfNums, hi]
    exact (Array.getElem?_eq_some_iff.1 h2).2
  rw [e]
  have := h bs[i] (List.getElem_mem hi)
  simp [UInt8.toNat_ofNat']
  omega
theorem extract_nums (bs : List Int) (a e : Nat) : (strOfNums bs).extract a e = strOfNums ((bs.drop a).take (e - a)) := by
  unfold strOfNums
  rw [ByteArray.extract_mk]
  simp [List.map_take, List.map_drop]
theorem str_nums (s : ByteArray) : strOfNums (nums s) = s := by
  unfold strOfNums nums
  have : (List.map (fun n => UInt8.ofNat n.toNat) (List.map (fun c : UInt8 => (c.toNat : Int)) s.data.toList)) = s.data.toList := by
    rw [List.map_map]
    conv => rhs; rw [← List.map_id s.data.toList]
    apply List.map_congr_left
    intro c _
    simp
  rw [this]
theorem nums_append (a b : List Int) : strOfNums (a ++ b) = strOfNums a ++ strOfNums b := by
  apply ByteArray.ext; simp [strOfNums]
theorem lev1 (n : Int) (h0 : 0 ≤ n) (h : n < 256) : lev (strOfNums (leb n 1)) 1 = n := by
  have b0 := bt_str _ (byt_leb n 1) 0 (by simp [leb])
  simp only [leb, List.take, List.getElem_cons_zero] at b0
  simp only [leb, List.take, lev, b0]; omega
theorem lev2 (n : Int) (h0 : 0 ≤ n) (h : n < 65536) : lev (strOfNums (leb n 2)) 2 = n := by
  have b0 := bt_str _ (byt_leb n 2) 0 (by simp [leb])
  have b1 := bt_str _ (byt_leb n 2) 1 (by simp [leb])
  simp only [leb, List.take, List.getElem_cons_zero, List.getElem_cons_succ] at b0 b1
  simp only [leb, List.take, lev, b0, b1]; omega
theorem lev8 (n : Int) (h0 : 0 ≤ n) (h : n ≤ 9223372036854775807) : lev (strOfNums (leb n 8)) 8 = n := by
  have hb := byt_leb n 8
  have b0 := bt_str _ hb 0 (by simp [leb])
  have b1 := bt_str _ hb 1 (by simp [leb])
  have b2 := bt_str _ hb 2 (by simp [leb])
  have b3 := bt_str _ hb 3 (by simp [leb])
  have b4 := bt_str _ hb 4 (by simp [leb])
  have b5 := bt_str _ hb 5 (by simp [leb])
  have b6 := bt_str _ hb 6 (by simp [leb])
  have b7 := bt_str _ hb 7 (by simp [leb])
  simp only [leb, List.take, List.getElem_cons_zero, List.getElem_cons_succ] at b0 b1 b2 b3 b4 b5 b6 b7
  simp only [leb, List.take, lev, b0, b1, b2, b3, b4, b5, b6, b7]
  omega
theorem bt7_leb (n : Int) (h0 : 0 ≤ n) (h : n ≤ 9223372036854775807) : bt (strOfNums (leb n 8)) 7 ≤ 127 := by
  have b7 := bt_str _ (byt_leb n 8) 7 (by simp [leb])
  have e : (leb n 8)[7]'(by simp [leb]) = n / 72057594037927936 % 256 := by simp [leb]
  rw [e] at b7
  rw [b7]
  omega

/-! ### blocks and their records -/
/-- A block. -/
structure Bk where
  id : Int
  ver : Int
  data : ByteArray
deriving DecidableEq
def Bk.zero : Bk := ⟨0, 0, ⟨#[]⟩⟩
instance : Inhabited Bk := ⟨Bk.zero⟩
def argOk (b : Bk) (m : Int) : Prop := 0 ≤ b.id ∧ b.id < 256 ∧ 1 ≤ b.ver ∧ b.ver ≤ 1099511627776 ∧ 0 ≤ m ∧ m ≤ 1
instance (b : Bk) (m : Int) : Decidable (argOk b m) := by unfold argOk; infer_instance
/-- What Record answers. -/
def refE (b : Bk) (m : Int) : Int := if argOk b m then (if 16 < b.data.size then 11 else 0) else 1
theorem refE_zero {b : Bk} {m : Int} : refE b m = 0 ↔ argOk b m ∧ b.data.size ≤ 16 := by
  unfold refE
  split
  · split
    · simp; omega
    · next h1 h2 => simp [h1]; omega
  · next h1 => simp [h1]
theorem refE_mark {b : Bk} (h : refE b 1 = 0) : refE b 0 = 0 := by
  obtain ⟨⟨h1, h2, h3, h4, h5⟩, h6⟩ := refE_zero.1 h
  exact refE_zero.2 ⟨⟨h1, h2, h3, h4, by omega⟩, h6⟩
/-- The numbers ahead of the data. -/
def hdr (b : Bk) : List Int := leb b.id 1 ++ leb b.ver 8 ++ leb b.data.size 2
theorem hdr_len (b : Bk) : (hdr b).length = 11 := by simp [hdr, leb_len]
def bodyB (b : Bk) : ByteArray := strOfNums (hdr b) ++ b.data ++ str (zeros (16 - b.data.size))
def sealB (b : Bk) : ByteArray := bodyB b ++ four (sumOf (bodyB b))
def recB (b : Bk) (m : Int) : ByteArray := strOfNums [m] ++ sealB b
theorem zeros_size (k : Nat) : (str (zeros k)).size = k := by rw [str_size]; simp [zeros]
theorem bodyB_size {b : Bk} (h : b.data.size ≤ 16) : (bodyB b).size = 27 := by
  unfold bodyB
  rw [ByteArray.size_append, ByteArray.size_append, strOfNums_size, hdr_len, zeros_size]; omega
theorem sealB_size {b : Bk} (h : b.data.size ≤ 16) : (sealB b).size = 31 := by
  unfold sealB; rw [ByteArray.size_append, bodyB_size h, four_size]
theorem recB_size {b : Bk} (h : b.data.size ≤ 16) (m : Int) : (recB b m).size = 32 := by
  unfold recB; rw [ByteArray.size_append, sealB_size h, strOfNums_size]; rfl
/-- What is read out of a record's body. -/
theorem body_at (b : Bk) (a e : Nat) (he : e ≤ 11) : (bodyB b).extract a e = strOfNums (((hdr b).drop a).take (e - a)) := by
  unfold bodyB
  rw [ByteArray.append_assoc, ByteArray.extract_append]
  have hz : (strOfNums (hdr b)).size = 11 := by rw [strOfNums_size, hdr_len]
  rw [hz, extract_nums]
  have : (b.data ++ str (zeros (16 - b.data.size))).extract (a - 11) (e - 11) = ByteArray.empty := by
    rw [ByteArray.extract_eq_empty_iff]; omega
  rw [this, ByteArray.append_empty]
theorem body_id (b : Bk) (h : refE b 1 = 0) : lev ((bodyB b).extract 0 1) 1 = b.id := by
  obtain ⟨⟨h1, h2, _⟩, _⟩ := refE_zero.1 h
  rw [body_at b 0 1 (by omega), show ((hdr b).drop 0).take (1 - 0) = leb b.id 1 by simp [hdr, leb]]
  exact lev1 _ h1 h2
theorem body_v (b : Bk) : (bodyB b).extract 1 9 = strOfNums (leb b.ver 8) := by
  rw [body_at b 1 9 (by omega), show ((hdr b).drop 1).take (9 - 1) = leb b.ver 8 by simp [hdr, leb]]
theorem body_ver (b : Bk) (h : refE b 1 = 0) : lev ((bodyB b).extract 1 9) 8 = b.ver ∧ bt ((bodyB b).extract 1 9) 7 ≤ 127 := by
  obtain ⟨⟨_, _, h1, h2, _⟩, _⟩ := refE_zero.1 h
  rw [body_v]
  exact ⟨lev8 _ (by omega) (by omega), bt7_leb _ (by omega) (by omega)⟩
theorem body_len (b : Bk) (h : refE b 1 = 0) : lev ((bodyB b).extract 9 11) 2 = b.data.size := by
  obtain ⟨_, h1⟩ := refE_zero.1 h
  rw [body_at b 9 11 (by omega), show ((hdr b).drop 9).take (11 - 9) = leb b.data.size 2 by simp [hdr, leb]]
  exact lev2 _ (by omega) (by omega)
theorem body_data (b : Bk) : (bodyB b).extract 11 (11 + b.data.size) = b.data := by
  unfold bodyB
  have hz : (strOfNums (hdr b)).size = 11 := by rw [strOfNums_size, hdr_len]
  rw [ByteArray.append_assoc, ByteArray.extract_append, hz, ByteArray.extract_append]
  rw [show (strOfNums (hdr b)).extract 11 (11 + b.data.size) = ByteArray.empty by rw [ByteArray.extract_eq_empty_iff, hz]; omega]
  rw [show (str (zeros (16 - b.data.size))).extract (11 - 11 - b.data.size) (11 + b.data.size - 11 - b.data.size) = ByteArray.empty by rw [ByteArray.extract_eq_empty_iff]; omega]
  rw [show b.data.extract (11 - 11) (11 + b.data.size - 11) = b.data by rw [show 11 + b.data.size - 11 = b.data.size by omega]; exact ByteArray.extract_zero_size]
  simp
theorem bodyB_inj {b c : Bk} (hb : refE b 1 = 0) (hc : refE c 1 = 0) (h : bodyB b = bodyB c) : b = c := by
  have h1 := body_id b hb
  have h2 := (body_ver b hb).1
  have h3 := body_len b hb
  have h4 := body_data b
  rw [h] at h1 h2 h3 h4
  rw [body_id c hc] at h1
  rw [(body_ver c hc).1] at h2
  rw [body_len c hc] at h3
  have e : b.data.size = c.data.size := by omega
  rw [e, body_data c] at h4
  cases b; cases c; simp_all
theorem sealB_open (b : Bk) : openOf (sealB b) = (bodyB b, true) := openOf_yes _
theorem recB_inj {b c : Bk} {m m' : Int} (hb : refE b 1 = 0) (hc : refE c 1 = 0) (h : recB b m = recB c m') : b = c := by
  have h1 := (app_inj (by rw [sealB_size (refE_zero.1 hb).2, sealB_size (refE_zero.1 hc).2]) h).2
  have h2 := sealB_open b
  rw [h1, sealB_open c] at h2
  exact bodyB_inj hb hc (Prod.mk.inj h2).1.symm

/-- The block that lies in a sector of these bytes, if one does. -/
noncomputable def parse (s : ByteArray) : Option Bk := open Classical in if h : ∃ b, refE b 1 = 0 ∧ recB b 1 = s then some h.choose else none
theorem parse_of {b : Bk} {s : ByteArray} (h : refE b 1 = 0) (he : recB b 1 = s) : parse s = some b := by
  have hx : ∃ b, refE b 1 = 0 ∧ recB b 1 = s := ⟨b, h, he⟩
  unfold parse
  rw [dif_pos hx]
  obtain ⟨h1, h2⟩ := hx.choose_spec
  rw [recB_inj h1 h (h2.trans he.symm)]
theorem parse_some {b : Bk} {s : ByteArray} (h : parse s = some b) : refE b 1 = 0 ∧ recB b 1 = s := by
  unfold parse at h
  split at h
  · next hx => cases h; exact hx.choose_spec
  · cases h
theorem parse_none {s : ByteArray} (h : ∀ b, refE b 1 = 0 → recB b 1 ≠ s) : parse s = none := by
  cases hp : parse s with
  | none => rfl
  | some b => exact absurd (parse_some hp).2 (h b (parse_some hp).1)
theorem parse_size {b : Bk} {s : ByteArray} (h : parse s = some b) : s.size = 32 := by
  obtain ⟨h1, rfl⟩ := parse_some h; exact recB_size (refE_zero.1 h1).2 1
theorem rec_head (b : Bk) (m : Int) (h0 : 0 ≤ m) (h1 : m ≤ 255) : bt (recB b m) 0 = m := by
  have hl : 0 < (recB b m).size := by unfold recB; rw [ByteArray.size_append, strOfNums_size]; simp; omega
  unfold bt
  rw [dif_pos hl]
  have hg : (recB b m).data.toList[0]? = some (UInt8.ofNat m.toNat) := by unfold recB; simp [ByteArray.data_append, strOfNums]
  have : (recB b m)[0]'hl = UInt8.ofNat m.toNat := by
    have := List.getElem?_eq_some_iff.1 hg
    obtain ⟨_, h2⟩ := this
    exact h2
  rw [this]
  simp [UInt8.toNat_ofNat']; omega
theorem rec_ne (b c : Bk) : recB b 0 ≠ recB c 1 := fun h => by
  have h1 := rec_head b 0 (by omega) (by omega)
  rw [h, rec_head c 1 (by omega) (by omega)] at h1; omega
/-- A sector whose first byte is another one. -/
theorem parse_head {s : ByteArray} (h : bt s 0 ≠ 1) : parse s = none := parse_none fun c _ he => h (by rw [← he]; exact rec_head c 1 (by omega) (by omega))
theorem parse_zeros : parse (str (zeros 32)) = none := parse_head (by decide +kernel)
/-- One byte behind the mark is another one. -/
theorem parse_other {b : Bk} (h : refE b 1 = 0) {t : ByteArray} {k : Nat} {x y : UInt8} (hk : 1 ≤ k) (hk2 : k < 32) (hx : (recB b 1).data.toList[k]? = some x) (hxy : x ≠ y)
    (ht : t.data.toList = (recB b 1).data.toList.take k ++ y :: (recB b 1).data.toList.drop (k + 1)) : parse t = none := by
  refine parse_none fun c hc he => ?_
  have hz := (refE_zero.1 h).2
  have hl : (recB b 1).data.toList = UInt8.ofNat 1 :: (sealB b).data.toList := by simp [recB, ByteArray.data_append, strOfNums]
  have hlc : (recB c 1).data.toList = UInt8.ofNat 1 :: (sealB c).data.toList := by simp [recB, ByteArray.data_append, strOfNums]
  obtain ⟨j, rfl⟩ : ∃ j, k = j + 1 := ⟨k - 1, by omega⟩
  rw [hl] at hx ht
  rw [← he, hlc] at ht
  simp only [List.take_succ_cons, List.drop_succ_cons, List.cons_append, List.cons.injEq, true_and] at ht
  simp only [List.getElem?_cons_succ] at hx
  have h3 := openOf_other (bodyB b) j x y (sealB c) (by have := sealB_size hz; unfold sealB at this; omega) hx hxy ht
  rw [sealB_open c] at h3
  cases h3
end Go.Proofs.YtacdbfaoeioflaaDoor
