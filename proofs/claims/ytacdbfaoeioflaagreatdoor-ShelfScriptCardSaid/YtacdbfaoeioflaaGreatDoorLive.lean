/-
  A block's record, as plain bytes: how it is made, what is read out of it; one byte behind the mark that is another one: no record.

  A shelf as plain data: of each sector the block that lies in it; what Open finds, what Put and Drop answer and leave.

  What Put and Drop answer and leave, as plain data; what a loss of power leaves of them.

  While no power goes: what Put and Drop answer; a new plate; what is opened behind it.
-/
import Derived.Test.YtacdbfaoeioflaaGreatDoorOpened
import Derived.Test.YtacdbfaoeioflaaGreatDoorPure
import Derived.PlainAid
import Derived.Laws.BytesArg
namespace Go.Proofs.YtacdbfaoeioflaaGreatDoor
open Go.RowKit Go.PlainAid Go.Lib

/-! ### bytes as numbers -/
/-- The k lowest bytes of n, the lowest first. -/
def leb (n : Int) (k : Nat) : List Int :=
  [n % 256, n / 256 % 256, n / 65536 % 256, n / 16777216 % 256, n / 4294967296 % 256, n / 1099511627776 % 256, n / 281474976710656 % 256, n / 72057594037927936 % 256].take k
/-- A text's bytes, as numbers. -/
def nums (s : ByteArray) : List Int := s.data.toList.map fun c => (c.toNat : Int)
theorem nums_length (s : ByteArray) : (nums s).length = s.size := by simp [nums]
/-- The number that the first k bytes of s make, the lowest first. -/
def lev (s : ByteArray) : Nat → Int
  | 0 => 0
  | k + 1 => lev s k + bt s k * 256 ^ k
def Byt (bs : List Int) : Prop := ∀ x ∈ bs, 0 ≤ x ∧ x ≤ 255
theorem Byt.nil : Byt [] := fun _ h => by cases h
theorem Byt.app {a b : List Int} (ha : Byt a) (hb : Byt b) : Byt (a ++ b) := fun x hx => by
  rcases List.mem_append.1 hx with h | h
  · exact ha x h
  · exact hb x h
theorem byt_leb (n : Int) (k : Nat) : Byt (leb n k) := by
  intro x hx
  have hx' := List.mem_of_mem_take hx
  simp only [List.mem_cons, List.not_mem_nil, or_false] at hx'
  omega
theorem byt_nums (s : ByteArray) : Byt (nums s) := by
  intro x hx
  obtain ⟨c, _, rfl⟩ := List.mem_map.1 hx
  have := c.toNat_lt
  omega
theorem leb_len (n : Int) (k : Nat) (hk : k ≤ 8) : (leb n k).length = k := by simp [leb]; omega
theorem bt_str (bs : List Int) (h : Byt bs) (i : Nat) (hi : i < bs.length) : bt (strOfNums bs) i = bs[i] := by
  unfold bt
  have hs : i < (strOfNums bs).size := by rw [strOfNums_size]; exact hi
  rw [dif_pos hs]
  have e : (strOfNums bs)[i]'hs = UInt8.ofNat (bs[i]).toNat := by
    have h2 : (strOfNums bs).data[i]? = some (UInt8.ofNat (bs[i]).toNat) := by simp [strOfNums, hi]
    exact (Array.getElem?_eq_some_iff.1 h2).2
  rw [e]
  have := h bs[i] (List.getElem_mem hi)
  simp [UInt8.toNat_ofNat']
  omega
theorem extract_nums (bs : List Int) (a e : Nat) : (strOfNums bs).extract a e = strOfNums ((bs.drop a).take (e - a)) := by
  unfold strOfNums
  rw [ByteArray.extract_mk]
  simp [List.map_take, List.map_drop]
theorem str_nums (s : ByteArray) : strOfNums (nums s) = s := by
  unfold strOfNums nums
  have : (List.map (fun n => UInt8.ofNat n.toNat) (List.map (fun c : UInt8 => (c.toNat : Int)) s.data.toList)) = s.data.toList := by
    rw [List.map_map]
    conv => rhs; rw [← List.map_id s.data.toList]
    apply List.map_congr_left
    intro c _
    simp
  rw [this]
theorem nums_append (a b : List Int) : strOfNums (a ++ b) = strOfNums a ++ strOfNums b := by
  apply ByteArray.ext; simp [strOfNums]
theorem lev1 (n : Int) (h0 : 0 ≤ n) (h : n < 256) : lev (strOfNums (leb n 1)) 1 = n := by
  have b0 := bt_str _ (byt_leb n 1) 0 (by simp [leb])
  simp only [leb, List.take, List.getElem_cons_zero] at b0
  simp only [leb, List.take, lev, b0]; omega
theorem lev2 (n : Int) (h0 : 0 ≤ n) (h : n < 65536) : lev (strOfNums (leb n 2)) 2 = n := by
  have b0 := bt_str _ (byt_leb n 2) 0 (by simp [leb])
  have b1 := bt_str _ (byt_leb n 2) 1 (by simp [leb])
  simp only [leb, List.take, List.getElem_cons_zero, List.getElem_cons_succ] at b0 b1
  simp only [leb, List.take, lev, b0, b1]; omega
theorem lev8 (n : Int) (h0 : 0 ≤ n) (h : n ≤ 9223372036854775807) : lev (strOfNums (leb n 8)) 8 = n := by
  have hb := byt_leb n 8
  have b0 := bt_str _ hb 0 (by simp [leb])
  have b1 := bt_str _ hb 1 (by simp [leb])
  have b2 := bt_str _ hb 2 (by simp [leb])
  have b3 := bt_str _ hb 3 (by simp [leb])
  have b4 := bt_str _ hb 4 (by simp [leb])
  have b5 := bt_str _ hb 5 (by simp [leb])
  have b6 := bt_str _ hb 6 (by simp [leb])
  have b7 := bt_str _ hb 7 (by simp [leb])
  simp only [leb, List.take, List.getElem_cons_zero, List.getElem_cons_succ] at b0 b1 b2 b3 b4 b5 b6 b7
  simp only [leb, List.take, lev, b0, b1, b2, b3, b4, b5, b6, b7]
  omega
theorem bt7_leb (n : Int) (h0 : 0 ≤ n) (h : n ≤ 9223372036854775807) : bt (strOfNums (leb n 8)) 7 ≤ 127 := by
  have b7 := bt_str _ (byt_leb n 8) 7 (by simp [leb])
  have e : (leb n 8)[7]'(by simp [leb]) = n / 72057594037927936 % 256 := by simp [leb]
  rw [e] at b7
  rw [b7]
  omega

/-! ### blocks and their records -/
/-- A block. -/
structure Bk where
  id : Int
  ver : Int
  data : ByteArray
deriving DecidableEq
def Bk.zero : Bk := ⟨0, 0, ⟨#[]⟩⟩
instance : Inhabited Bk := ⟨Bk.zero⟩
def argOk (b : Bk) (m : Int) : Prop := 0 ≤ b.id ∧ b.id < 256 ∧ 1 ≤ b.ver ∧ b.ver ≤ 1099511627776 ∧ 0 ≤ m ∧ m ≤ 1
instance (b : Bk) (m : Int) : Decidable (argOk b m) := by unfold argOk; infer_instance
/-- What Record answers. -/
def refE (b : Bk) (m : Int) : Int := if argOk b m then (if 16 < b.data.size then 11 else 0) else 1
theorem refE_zero {b : Bk} {m : Int} : refE b m = 0 ↔ argOk b m ∧ b.data.size ≤ 16 := by
  unfold refE
  split
  · split
    · simp; omega
    · next h1 h2 => simp [h1]; omega
  · next h1 => simp [h1]
theorem refE_mark {b : Bk} (h : refE b 1 = 0) : refE b 0 = 0 := by
  obtain ⟨⟨h1, h2, h3, h4, h5⟩, h6⟩ := refE_zero.1 h
  exact refE_zero.2 ⟨⟨h1, h2, h3, h4, by omega⟩, h6⟩
/-- The numbers ahead of the data. -/
def hdr (b : Bk) : List Int := leb b.id 1 ++ leb b.ver 8 ++ leb b.data.size 2
theorem hdr_len (b : Bk) : (hdr b).length = 11 := by simp [hdr, leb_len]
def bodyB (b : Bk) : ByteArray := strOfNums (hdr b) ++ b.data ++ str (zeros (16 - b.data.size))
def sealB (b : Bk) : ByteArray := bodyB b ++ four (sumOf (bodyB b))
def recB (b : Bk) (m : Int) : ByteArray := strOfNums [m] ++ sealB b
theorem zeros_size (k : Nat) : (str (zeros k)).size = k := by rw [str_size]; simp [zeros]
theorem bodyB_size {b : Bk} (h : b.data.size ≤ 16) : (bodyB b).size = 27 := by
  unfold bodyB
  rw [ByteArray.size_append, ByteArray.size_append, strOfNums_size, hdr_len, zeros_size]; omega
theorem sealB_size {b : Bk} (h : b.data.size ≤ 16) : (sealB b).size = 31 := by
  unfold sealB; rw [ByteArray.size_append, bodyB_size h, four_size]
theorem recB_size {b : Bk} (h : b.data.size ≤ 16) (m : Int) : (recB b m).size = 32 := by
  unfold recB; rw [ByteArray.size_append, sealB_size h, strOfNums_size]; rfl
/-- What is read out of a record's body. -/
theorem body_at (b : Bk) (a e : Nat) (he : e ≤ 11) : (bodyB b).extract a e = strOfNums (((hdr b).drop a).take (e - a)) := by
  unfold bodyB
  rw [ByteArray.append_assoc, ByteArray.extract_append]
  have hz : (strOfNums (hdr b)).size = 11 := by rw [strOfNums_size, hdr_len]
  rw [hz, extract_nums]
  have : (b.data ++ str (zeros (16 - b.data.size))).extract (a - 11) (e - 11) = ByteArray.empty := by
    rw [ByteArray.extract_eq_empty_iff]; omega
  rw [this, ByteArray.append_empty]
theorem body_id (b : Bk) (h : refE b 1 = 0) : lev ((bodyB b).extract 0 1) 1 = b.id := by
  obtain ⟨⟨h1, h2, _⟩, _⟩ := refE_zero.1 h
  rw [body_at b 0 1 (by omega), show ((hdr b).drop 0).take (1 - 0) = leb b.id 1 by simp [hdr, leb]]
  exact lev1 _ h1 h2
theorem body_v (b : Bk) : (bodyB b).extract 1 9 = strOfNums (leb b.ver 8) := by
  rw [body_at b 1 9 (by omega), show ((hdr b).drop 1).take (9 - 1) = leb b.ver 8 by simp [hdr, leb]]
theorem body_ver (b : Bk) (h : refE b 1 = 0) : lev ((bodyB b).extract 1 9) 8 = b.ver ∧ bt ((bodyB b).extract 1 9) 7 ≤ 127 := by
  obtain ⟨⟨_, _, h1, h2, _⟩, _⟩ := refE_zero.1 h
  rw [body_v]
  exact ⟨lev8 _ (by omega) (by omega), bt7_leb _ (by omega) (by omega)⟩
theorem body_len (b : Bk) (h : refE b 1 = 0) : lev ((bodyB b).extract 9 11) 2 = b.data.size := by
  obtain ⟨_, h1⟩ := refE_zero.1 h
  rw [body_at b 9 11 (by omega), show ((hdr b).drop 9).take (11 - 9) = leb b.data.size 2 by simp [hdr, leb]]
  exact lev2 _ (by omega) (by omega)
theorem body_data (b : Bk) : (bodyB b).extract 11 (11 + b.data.size) = b.data := by
  unfold bodyB
  have hz : (strOfNums (hdr b)).size = 11 := by rw [strOfNums_size, hdr_len]
  rw [ByteArray.append_assoc, ByteArray.extract_append, hz, ByteArray.extract_append]
  rw [show (strOfNums (hdr b)).extract 11 (11 + b.data.size) = ByteArray.empty by rw [ByteArray.extract_eq_empty_iff, hz]; omega]
  rw [show (str (zeros (16 - b.data.size))).extract (11 - 11 - b.data.size) (11 + b.data.size - 11 - b.data.size) = ByteArray.empty by rw [ByteArray.extract_eq_empty_iff]; omega]
  rw [show b.data.extract (11 - 11) (11 + b.data.size - 11) = b.data by rw [show 11 + b.data.size - 11 = b.data.size by omega]; exact ByteArray.extract_zero_size]
  simp
theorem bodyB_inj {b c : Bk} (hb : refE b 1 = 0) (hc : refE c 1 = 0) (h : bodyB b = bodyB c) : b = c := by
  have h1 := body_id b hb
  have h2 := (body_ver b hb).1
  have h3 := body_len b hb
  have h4 := body_data b
  rw [h] at h1 h2 h3 h4
  rw [body_id c hc] at h1
  rw [(body_ver c hc).1] at h2
  rw [body_len c hc] at h3
  have e : b.data.size = c.data.size := by omega
  rw [e, body_data c] at h4
  cases b; cases c; simp_all
theorem sealB_open (b : Bk) : openOf (sealB b) = (bodyB b, true) := openOf_yes _
theorem recB_inj {b c : Bk} {m m' : Int} (hb : refE b 1 = 0) (hc : refE c 1 = 0) (h : recB b m = recB c m') : b = c := by
  have h1 := (app_inj (by rw [sealB_size (refE_zero.1 hb).2, sealB_size (refE_zero.1 hc).2]) h).2
  have h2 := sealB_open b
  rw [h1, sealB_open c] at h2
  exact bodyB_inj hb hc (Prod.mk.inj h2).1.symm

/-- The block that lies in a sector of these bytes, if one does. -/
noncomputable def parse (s : ByteArray) : Option Bk := open Classical in if h : ∃ b, refE b 1 = 0 ∧ recB b 1 = s then some h.choose else none
theorem parse_of {b : Bk} {s : ByteArray} (h : refE b 1 = 0) (he : recB b 1 = s) : parse s = some b := by
  have hx : ∃ b, refE b 1 = 0 ∧ recB b 1 = s := ⟨b, h, he⟩
  unfold parse
  rw [dif_pos hx]
  obtain ⟨h1, h2⟩ := hx.choose_spec
  rw [recB_inj h1 h (h2.trans he.symm)]
theorem parse_some {b : Bk} {s : ByteArray} (h : parse s = some b) : refE b 1 = 0 ∧ recB b 1 = s := by
  unfold parse at h
  split at h
  · next hx => cases h; exact hx.choose_spec
  · cases h
theorem parse_none {s : ByteArray} (h : ∀ b, refE b 1 = 0 → recB b 1 ≠ s) : parse s = none := by
  cases hp : parse s with
  | none => rfl
  | some b => exact absurd (parse_some hp).2 (h b (parse_some hp).1)
theorem parse_size {b : Bk} {s : ByteArray} (h : parse s = some b) : s.size = 32 := by
  obtain ⟨h1, rfl⟩ := parse_some h; exact recB_size (refE_zero.1 h1).2 1
theorem rec_head (b : Bk) (m : Int) (h0 : 0 ≤ m) (h1 : m ≤ 255) : bt (recB b m) 0 = m := by
  have hl : 0 < (recB b m).size := by unfold recB; rw [ByteArray.size_append, strOfNums_size]; simp; omega
  unfold bt
  rw [dif_pos hl]
  have hg : (recB b m).data.toList[0]? = some (UInt8.ofNat m.toNat) := by unfold recB; simp [ByteArray.data_append, strOfNums]
  have : (recB b m)[0]'hl = UInt8.ofNat m.toNat := by
    have := List.getElem?_eq_some_iff.1 hg
    obtain ⟨_, h2⟩ := this
    exact h2
  rw [this]
  simp [UInt8.toNat_ofNat']; omega
theorem rec_ne (b c : Bk) : recB b 0 ≠ recB c 1 := fun h => by
  have h1 := rec_head b 0 (by omega) (by omega)
  rw [h, rec_head c 1 (by omega) (by omega)] at h1; omega
/-- A sector whose first byte is another one. -/
theorem parse_head {s : ByteArray} (h : bt s 0 ≠ 1) : parse s = none := parse_none fun c _ he => h (by rw [← he]; exact rec_head c 1 (by omega) (by omega))
theorem parse_zeros : parse (str (zeros 32)) = none := parse_head (by decide +kernel)
/-- One byte behind the mark is another one. -/
theorem parse_other {b : Bk} (h : refE b 1 = 0) {t : ByteArray} {k : Nat} {x y : UInt8} (hk : 1 ≤ k) (hk2 : k < 32) (hx : (recB b 1).data.toList[k]? = some x) (hxy : x ≠ y)
    (ht : t.data.toList = (recB b 1).data.toList.take k ++ y :: (recB b 1).data.toList.drop (k + 1)) : parse t = none := by
  refine parse_none fun c hc he => ?_
  have hz := (refE_zero.1 h).2
  have hl : (recB b 1).data.toList = UInt8.ofNat 1 :: (sealB b).data.toList := by simp [recB, ByteArray.data_append, strOfNums]
  have hlc : (recB c 1).data.toList = UInt8.ofNat 1 :: (sealB c).data.toList := by simp [recB, ByteArray.data_append, strOfNums]
  obtain ⟨j, rfl⟩ : ∃ j, k = j + 1 := ⟨k - 1, by omega⟩
  rw [hl] at hx ht
  rw [← he, hlc] at ht
  simp only [List.take_succ_cons, List.drop_succ_cons, List.cons_append, List.cons.injEq, true_and] at ht
  simp only [List.getElem?_cons_succ] at hx
  have h3 := openOf_other (bodyB b) j x y (sealB c) (by have := sealB_size hz; unfold sealB at this; omega) hx hxy ht
  rw [sealB_open c] at h3
  cases h3
end Go.Proofs.YtacdbfaoeioflaaGreatDoor

namespace Go.Proofs.YtacdbfaoeioflaaGreatDoor
open Go.RowKit Go.PlainAid

abbrev Lay := List (Option Bk)
def hasId (id : Int) : Option Bk → Bool
  | some b => decide (b.id = id)
  | none => false
theorem hasId_some {id : Int} {o : Option Bk} (h : hasId id o = true) : ∃ b, o = some b ∧ b.id = id := by
  cases o with
  | none => cases h
  | some b => exact ⟨b, rfl, by simpa [hasId] using h⟩
/-- b lies in the sector i. -/
def At (L : Lay) (i : Nat) (b : Bk) : Prop := L[i]? = some (some b)
theorem At.lt {L : Lay} {i : Nat} {b : Bk} (h : At L i b) : i < L.length := (List.getElem?_eq_some_iff.1 h).1
theorem At.fn {L : Lay} {i : Nat} {b c : Bk} (h : At L i b) (k : At L i c) : b = c := by unfold At at h k; rw [h] at k; simpa using k
structure GoodL (L : Lay) : Prop where
  hi : L.length ≤ 128
  ok : ∀ i b, At L i b → refE b 1 = 0
  un : ∀ i j b c, At L i b → At L j c → b.id = c.id → i = j
theorem GoodL.eq {L : Lay} (h : GoodL L) {i j : Nat} {b c : Bk} (hb : At L i b) (hc : At L j c) (e : b.id = c.id) : b = c := by
  obtain rfl := h.un i j b c hb hc e; exact hb.fn hc
/-- The sector of a block. -/
def atL (L : Lay) (id : Int) : Option Nat := L.findIdx? (hasId id)
def getL (L : Lay) (id : Int) : Option Bk := (L.find? (hasId id)).join
theorem getL_some {L : Lay} {id : Int} {b : Bk} (h : getL L id = some b) : (∃ i, At L i b) ∧ b.id = id := by
  unfold getL at h
  obtain ⟨o, h1, h2⟩ : ∃ o, L.find? (hasId id) = some o ∧ o = some b := by
    cases hf : L.find? (hasId id) with
    | none => rw [hf] at h; cases h
    | some o => rw [hf] at h; exact ⟨o, rfl, h⟩
  subst h2
  obtain ⟨i, hi⟩ := List.getElem?_of_mem (List.mem_of_find?_eq_some h1)
  exact ⟨⟨i, hi⟩, by have := List.find?_some h1; simpa [hasId] using this⟩
theorem getL_none {L : Lay} {id : Int} (h : getL L id = none) : ∀ i b, At L i b → b.id ≠ id := by
  intro i b hb e
  unfold getL at h
  cases hf : L.find? (hasId id) with
  | none =>
    have := List.find?_eq_none.1 hf (some b) (List.mem_of_getElem? hb)
    simp [hasId, e] at this
  | some o =>
    rw [hf] at h
    obtain ⟨c, rfl, -⟩ := hasId_some (List.find?_some hf)
    cases h
theorem getL_at {L : Lay} (hG : GoodL L) {i : Nat} {b : Bk} (hb : At L i b) : getL L b.id = some b := by
  cases h : getL L b.id with
  | none => exact absurd rfl (getL_none h i b hb)
  | some c =>
    obtain ⟨⟨j, hj⟩, e⟩ := getL_some h
    rw [hG.eq hj hb e]
theorem getL_of_none {L : Lay} {id : Int} (h : ∀ i b, At L i b → b.id ≠ id) : getL L id = none := by
  cases hf : getL L id with
  | none => rfl
  | some c => obtain ⟨⟨j, hj⟩, e⟩ := getL_some hf; exact absurd e (h j c hj)
theorem getL_iff {L : Lay} (hG : GoodL L) {id : Int} {b : Bk} : getL L id = some b ↔ (∃ i, At L i b) ∧ b.id = id :=
  ⟨getL_some, fun ⟨⟨_, hi⟩, e⟩ => e ▸ getL_at hG hi⟩
theorem atL_some {L : Lay} {id : Int} {i : Nat} (h : atL L id = some i) : ∃ b, At L i b ∧ b.id = id ∧ ∀ j b, j < i → At L j b → b.id ≠ id := by
  unfold atL at h
  rw [List.findIdx?_eq_some_iff_getElem] at h
  obtain ⟨hi, h1, h2⟩ := h
  obtain ⟨b, hb, e⟩ := hasId_some h1
  refine ⟨b, ?_, e, fun j c hj hc ec => ?_⟩
  · unfold At; rw [List.getElem?_eq_getElem hi, hb]
  · have := h2 j hj
    have hjl : j < L.length := by omega
    unfold At at hc
    rw [List.getElem?_eq_getElem hjl] at hc
    rw [Option.some.inj hc] at this
    simp [hasId, ec] at this
theorem atL_none {L : Lay} {id : Int} (h : atL L id = none) : ∀ i b, At L i b → b.id ≠ id := by
  unfold atL at h
  rw [List.findIdx?_eq_none_iff] at h
  intro i b hb e
  have := h (some b) (List.mem_of_getElem? hb)
  simp [hasId, e] at this
theorem atL_of {L : Lay} (hG : GoodL L) {i : Nat} {b : Bk} (hb : At L i b) : atL L b.id = some i := by
  cases h : atL L b.id with
  | none => exact absurd rfl (atL_none h i b hb)
  | some j => obtain ⟨c, hc, e, -⟩ := atL_some h; rw [hG.un j i c b hc hb e]
theorem atL_of_none {L : Lay} {id : Int} (h : ∀ i b, At L i b → b.id ≠ id) : atL L id = none := by
  cases hf : atL L id with
  | none => rfl
  | some i => obtain ⟨b, hb, e, -⟩ := atL_some hf; exact absurd e (h i b hb)
theorem get_at {L : Lay} {id : Int} : (getL L id).isSome = (atL L id).isSome := by
  cases h : atL L id with
  | none => rw [getL_of_none (atL_none h)]; rfl
  | some i =>
    obtain ⟨b, hb, e, -⟩ := atL_some h
    cases hg : getL L id with
    | none => exact absurd e (getL_none hg i b hb)
    | some c => rfl

/-- Without the block of that number. -/
def woL (L : Lay) (id : Int) : Lay := L.map fun o => if hasId id o then none else o
theorem woL_length (L : Lay) (id : Int) : (woL L id).length = L.length := by simp [woL]
theorem at_wo {L : Lay} {id : Int} {i : Nat} {b : Bk} : At (woL L id) i b ↔ At L i b ∧ b.id ≠ id := by
  unfold At woL
  rw [List.getElem?_map]
  cases h : L[i]? with
  | none => simp
  | some o =>
    cases o with
    | none => simp [hasId]
    | some c =>
      by_cases e : c.id = id
      · simp [hasId, e]; intro h; rw [← h]; exact e
      · simp [hasId, e]; intro h; rw [← h]; exact e
theorem GoodL.wo {L : Lay} (h : GoodL L) (id : Int) : GoodL (woL L id) :=
  ⟨by rw [woL_length]; exact h.hi, fun i b hb => h.ok i b (at_wo.1 hb).1, fun i j b c hb hc => h.un i j b c (at_wo.1 hb).1 (at_wo.1 hc).1⟩
theorem woL_self {L : Lay} {id : Int} (h : getL L id = none) : woL L id = L := by
  apply List.ext_getElem?
  intro i
  unfold woL
  rw [List.getElem?_map]
  cases hi : L[i]? with
  | none => rfl
  | some o =>
    cases o with
    | none => rfl
    | some c =>
      have := getL_none h i c hi
      simp [hasId, this]
def newer (L : Lay) (b : Bk) : Bool := match getL L b.id with
  | none => true
  | some c => decide (c.ver < b.ver)
theorem newer_iff {L : Lay} (hG : GoodL L) {b : Bk} : newer L b = true ↔ ∀ i c, At L i c → c.id = b.id → c.ver < b.ver := by
  unfold newer
  cases h : getL L b.id with
  | none => exact ⟨fun _ i c hc e => absurd e (getL_none h i c hc), fun _ => rfl⟩
  | some d =>
    obtain ⟨⟨j, hj⟩, e⟩ := getL_some h
    simp only [decide_eq_true_eq]
    exact ⟨fun hd i c hc ec => (hG.eq hc hj (ec.trans e.symm)) ▸ hd, fun hd => hd j d hj e⟩
/-- b lies in the sector i now. -/
def putL (L : Lay) (i : Nat) (b : Bk) : Lay := (woL L b.id).set i (some b)
theorem putL_length (L : Lay) (i : Nat) (b : Bk) : (putL L i b).length = L.length := by simp [putL, woL_length]
theorem at_put {L : Lay} {i j : Nat} {b c : Bk} (hi : i < L.length) : At (putL L i b) j c ↔ (j = i ∧ c = b) ∨ (j ≠ i ∧ At L j c ∧ c.id ≠ b.id) := by
  unfold putL At
  rw [List.getElem?_set]
  by_cases e : i = j
  · subst e
    rw [if_pos rfl, if_pos (by rw [woL_length]; exact hi)]
    refine ⟨fun h => .inl ⟨rfl, (Option.some.inj (Option.some.inj h)).symm⟩, fun h => ?_⟩
    rcases h with ⟨_, h⟩ | ⟨h, _⟩
    · rw [h]
    · exact absurd rfl h
  · rw [if_neg e]
    have := at_wo (L := L) (id := b.id) (i := j) (b := c)
    unfold At at this
    rw [this]
    exact ⟨fun h => .inr ⟨fun h => e h.symm, h⟩, fun h => by rcases h with ⟨h, _⟩ | ⟨_, h⟩; (exact absurd h.symm e); (exact h)⟩
theorem GoodL.put {L : Lay} (h : GoodL L) {i : Nat} (hi : i < L.length) {b : Bk} (hb : refE b 1 = 0) : GoodL (putL L i b) := by
  refine ⟨by rw [putL_length]; exact h.hi, fun j c hc => ?_, fun j k c d hc hd e => ?_⟩
  · rcases (at_put hi).1 hc with ⟨_, rfl⟩ | ⟨_, hc, _⟩
    · exact hb
    · exact h.ok j c hc
  · rcases (at_put hi).1 hc with ⟨rfl, rfl⟩ | ⟨_, hc, n1⟩ <;> rcases (at_put hi).1 hd with ⟨rfl, rfl⟩ | ⟨_, hd, n2⟩
    · rfl
    · exact absurd e.symm n2
    · exact absurd e n1
    · exact h.un j k c d hc hd e
/-- The sector i is free. -/
def Fre (L : Lay) (i : Nat) : Prop := L[i]? = some none
theorem Fre.lt {L : Lay} {i : Nat} (h : Fre L i) : i < L.length := (List.getElem?_eq_some_iff.1 h).1
theorem Fre.not {L : Lay} {i : Nat} (h : Fre L i) {b : Bk} (hb : At L i b) : False := by unfold Fre at h; unfold At at hb; rw [h] at hb; cases hb
theorem getL_put {L : Lay} (hG : GoodL L) {i : Nat} (hi : Fre L i) {b : Bk} (hb : refE b 1 = 0) (id : Int) : getL (putL L i b) id = if id = b.id then some b else getL L id := by
  have hP := hG.put hi.lt hb
  by_cases e : id = b.id
  · subst e
    rw [if_pos rfl]
    exact getL_at hP (i := i) ((at_put hi.lt).2 (.inl ⟨rfl, rfl⟩))
  · rw [if_neg e]
    cases h : getL L id with
    | none =>
      refine getL_of_none fun j c hc => ?_
      rcases (at_put hi.lt).1 hc with ⟨_, rfl⟩ | ⟨_, hc, _⟩
      · exact fun h => e h.symm
      · exact getL_none h j c hc
    | some c =>
      obtain ⟨⟨j, hj⟩, rfl⟩ := getL_some h
      exact getL_at hP (i := j) ((at_put hi.lt).2 (.inr ⟨fun hji => hi.not (hji ▸ hj), hj, e⟩))
theorem getL_wo {L : Lay} (hG : GoodL L) (id id' : Int) : getL (woL L id) id' = if id' = id then none else getL L id' := by
  by_cases e : id' = id
  · subst e
    rw [if_pos rfl]
    exact getL_of_none fun i b hb => (at_wo.1 hb).2
  · rw [if_neg e]
    cases h : getL L id' with
    | none => exact getL_of_none fun i b hb => getL_none h i b (at_wo.1 hb).1
    | some c =>
      obtain ⟨⟨j, hj⟩, rfl⟩ := getL_some h
      exact getL_at (hG.wo id) (i := j) (at_wo.2 ⟨hj, e⟩)

/-! ### how many, and in which order -/
def cnt (L : Lay) : Nat := L.countP Option.isSome
theorem cnt_le (L : Lay) : cnt L ≤ L.length := List.countP_le_length
def low (L : Lay) : Nat := L.findIdx Option.isNone
theorem low_le (L : Lay) : low L ≤ L.length := List.findIdx_le_length
theorem low_free {L : Lay} (h : low L < L.length) : Fre L (low L) := by
  have := List.findIdx_getElem (xs := L) (p := Option.isNone) (w := h)
  unfold Fre
  rw [List.getElem?_eq_getElem h]
  exact congrArg some (Option.isNone_iff_eq_none.1 this)
theorem low_before {L : Lay} {i : Nat} (h : i < low L) : ∃ b, At L i b := by
  have h1 := List.not_of_lt_findIdx (p := Option.isNone) (xs := L) h
  have hl : i < L.length := Nat.lt_of_lt_of_le h (low_le L)
  unfold At
  rw [List.getElem?_eq_getElem hl]
  cases hx : L[i] with
  | none => rw [hx] at h1; simp at h1
  | some b => exact ⟨b, rfl⟩
theorem cnt_full {L : Lay} : cnt L = L.length ↔ low L = L.length := by
  unfold cnt low
  rw [List.countP_eq_length, List.findIdx_eq_length]
  constructor
  · intro h x hx; have h3 := h x hx; revert h3; cases x <;> simp
  · intro h x hx; have h3 := h x hx; revert h3; cases x <;> simp
theorem cnt_set {L : Lay} : ∀ {i : Nat}, Fre L i → ∀ b : Bk, cnt (L.set i (some b)) = cnt L + 1 := by
  induction L with
  | nil => intro i h; simp [Fre] at h
  | cons o L ih =>
    intro i h b
    cases i with
    | zero =>
      simp [Fre] at h; subst h
      simp [cnt]
    | succ i =>
      have h' : Fre L i := by simpa [Fre] using h
      have := ih h' b
      unfold cnt at this ⊢
      rw [List.set_cons_succ, List.countP_cons, List.countP_cons, this]; omega
theorem cnt_wo {L : Lay} (hu : ∀ i j b c, At L i b → At L j c → b.id = c.id → i = j) (id : Int) : cnt (woL L id) + (if (getL L id).isSome then 1 else 0) = cnt L := by
  induction L with
  | nil => rfl
  | cons o L ih =>
    have hu' : ∀ i j b c, At L i b → At L j c → b.id = c.id → i = j := fun i j b c hb hc e => by
      have := hu (i + 1) (j + 1) b c (by simpa [At] using hb) (by simpa [At] using hc) e; omega
    have ih' := ih hu'
    cases o with
    | none =>
      have e1 : woL (none :: L) id = none :: woL L id := rfl
      have e2 : getL (none :: L) id = getL L id := by unfold getL; rw [List.find?_cons_of_neg (by simp [hasId])]
      rw [e1, e2]
      unfold cnt at ih' ⊢
      rw [List.countP_cons, List.countP_cons]; simpa using ih'
    | some b =>
      by_cases e : b.id = id
      · have e1 : woL (some b :: L) id = none :: woL L id := by simp [woL, hasId, e]
        have e2 : getL (some b :: L) id = some b := by unfold getL; rw [List.find?_cons_of_pos (by simpa [hasId] using e)]; rfl
        have e3 : getL L id = none := getL_of_none fun j c hc ec => by
          have := hu 0 (j + 1) b c rfl (by simpa [At] using hc) (e.trans ec.symm); omega
        rw [e3] at ih'
        rw [e1, e2]
        unfold cnt at ih' ⊢
        rw [List.countP_cons, List.countP_cons]
        simp at ih' ⊢; omega
      · have e1 : woL (some b :: L) id = some b :: woL L id := by simp [woL, hasId, e]
        have e2 : getL (some b :: L) id = getL L id := by unfold getL; rw [List.find?_cons_of_neg (by simpa [hasId] using e)]
        rw [e1, e2]
        unfold cnt at ih' ⊢
        rw [List.countP_cons, List.countP_cons]
        simp at ih' ⊢; omega
theorem cnt_put {L : Lay} (hG : GoodL L) {i : Nat} (hi : Fre L i) (b : Bk) : cnt (putL L i b) = cnt L + (if (getL L b.id).isSome then 0 else 1) := by
  have h1 : Fre (woL L b.id) i := by unfold Fre woL at *; rw [List.getElem?_map, hi]; rfl
  have h2 := cnt_set h1 b
  have h3 := cnt_wo hG.un b.id
  unfold putL
  rw [h2]
  split at h3 <;> simp_all <;> omega
/-- All blocks, by number. -/
def ids : List Int := (List.range 256).map fun k : Nat => (k : Int)
def listL (L : Lay) : List Bk := ids.filterMap (getL L)
theorem mem_list {L : Lay} (hG : GoodL L) {b : Bk} : b ∈ listL L ↔ ∃ i, At L i b := by
  unfold listL
  rw [List.mem_filterMap]
  constructor
  · rintro ⟨id, -, h⟩; exact (getL_some h).1
  · rintro ⟨i, hi⟩
    refine ⟨b.id, ?_, getL_at hG hi⟩
    obtain ⟨⟨h1, h2, _⟩, _⟩ := refE_zero.1 (hG.ok i b hi)
    exact List.mem_map.2 ⟨b.id.toNat, List.mem_range.2 (by omega), by omega⟩
theorem list_sorted (L : Lay) : (listL L).Pairwise fun a b => a.id < b.id := by
  unfold listL ids
  rw [List.filterMap_map]
  refine List.Pairwise.filterMap _ (R := fun a b : Nat => a < b) ?_ List.pairwise_lt_range
  intro a a' h b hb b' hb'
  have h1 := (getL_some (Option.mem_def.1 hb)).2
  have h2 := (getL_some (Option.mem_def.1 hb')).2
  simp only at h1 h2
  omega
theorem all_nodup {L : Lay} (hu : ∀ i j b c, At L i b → At L j c → b.id = c.id → i = j) : (L.filterMap fun o => o).Pairwise fun a b => a.id ≠ b.id := by
  induction L with
  | nil => exact .nil
  | cons o L ih =>
    have hu' : ∀ i j b c, At L i b → At L j c → b.id = c.id → i = j := fun i j b c hb hc e => by
      have := hu (i + 1) (j + 1) b c (by simpa [At] using hb) (by simpa [At] using hc) e; omega
    cases o with
    | none => simpa using ih hu'
    | some b =>
      rw [List.filterMap_cons_some (by rfl)]
      refine List.Pairwise.cons (fun c hc e => ?_) (ih hu')
      obtain ⟨o, ho, rfl⟩ := List.mem_filterMap.1 hc
      obtain ⟨j, hj⟩ := List.getElem?_of_mem ho
      have := hu 0 (j + 1) b c rfl (by simpa [At] using hj) e; omega
theorem list_perm {L : Lay} (hG : GoodL L) : (listL L).Perm (L.filterMap fun o => o) := by
  have h1 : (listL L).Nodup := (list_sorted L).imp fun h e => by subst e; omega
  have h2 : (L.filterMap fun o => o).Nodup := (all_nodup hG.un).imp fun h e => h (by rw [e])
  refine (List.perm_ext_iff_of_nodup h1 h2).2 fun b => ?_
  rw [mem_list hG, List.mem_filterMap]
  constructor
  · rintro ⟨i, hi⟩; exact ⟨some b, List.mem_of_getElem? hi, rfl⟩
  · rintro ⟨o, ho, rfl⟩; exact List.getElem?_of_mem ho
theorem filterMap_cnt (L : Lay) : (L.filterMap fun o => o).length = cnt L := by
  induction L with
  | nil => rfl
  | cons o L ih => cases o <;> simp [cnt] <;> exact ih
theorem list_length {L : Lay} (hG : GoodL L) : (listL L).length = cnt L := by rw [(list_perm hG).length_eq, filterMap_cnt]
/-- The list is told by what Get answers. -/
theorem list_wo {L : Lay} (hG : GoodL L) (id : Int) : listL (woL L id) = (listL L).filter fun b => decide (b.id ≠ id) := by
  unfold listL
  rw [List.filter_filterMap]
  congr 1
  funext k
  rw [getL_wo hG]
  by_cases e : k = id
  · rw [if_pos e]
    cases h : getL L k with
    | none => rfl
    | some c => have := (getL_some h).2; simp [Option.filter, this, e]
  · rw [if_neg e]
    cases h : getL L k with
    | none => rfl
    | some c => have := (getL_some h).2; simp [Option.filter, this, e]

/-! ### Open -/
/-- What lies there when the first k sectors were read. -/
noncomputable def scan (f : Nat → List UInt8) (n : Nat) : Nat → Lay
  | 0 => List.replicate n none
  | k + 1 => match parse (str (f k)) with
    | none => scan f n k
    | some b => if newer (scan f n k) b then putL (scan f n k) k b else scan f n k
theorem scan_length (f : Nat → List UInt8) (n k : Nat) : (scan f n k).length = n := by
  induction k with
  | zero => simp [scan]
  | succ k ih => unfold scan; split; (exact ih); split; (rw [putL_length]; exact ih); (exact ih)
theorem at_replicate {n i : Nat} {b : Bk} (h : At (List.replicate n none) i b) : False := by
  unfold At at h; rw [List.getElem?_replicate] at h; split at h <;> simp at h
theorem scan_good {f : Nat → List UInt8} {n : Nat} (hn : n ≤ 128) : ∀ k, k ≤ n → GoodL (scan f n k) ∧ (∀ i b, At (scan f n k) i b → i < k ∧ parse (str (f i)) = some b) ∧ ∀ i b, i < k → parse (str (f i)) = some b → ∃ j c, At (scan f n k) j c ∧ c.id = b.id ∧ b.ver ≤ c.ver := by
  intro k
  induction k with
  | zero =>
    intro _
    exact ⟨⟨by simpa [scan] using hn, fun i b h => (at_replicate h).elim, fun i j b c h => (at_replicate h).elim⟩, fun i b h => (at_replicate h).elim, fun i b h => by omega⟩
  | succ k ih =>
    intro hk
    obtain ⟨h1, h2, h3⟩ := ih (by omega)
    have hfr : Fre (scan f n k) k := by
      have hl : k < (scan f n k).length := by rw [scan_length]; omega
      unfold Fre
      rw [List.getElem?_eq_getElem hl]
      cases hx : (scan f n k)[k] with
      | none => rfl
      | some b => have := (h2 k b (by unfold At; rw [List.getElem?_eq_getElem hl, hx])).1; omega
    unfold scan
    split
    · next hp =>
      refine ⟨h1, fun i b h => ⟨by have := (h2 i b h).1; omega, (h2 i b h).2⟩, fun i b hi hb => ?_⟩
      by_cases e : i = k
      · subst e; rw [hp] at hb; cases hb
      · exact h3 i b (by omega) hb
    · next b hp =>
      split
      · next hnw =>
        have hn' := (newer_iff h1).1 hnw
        refine ⟨h1.put hfr.lt (parse_some hp).1, fun i c h => ?_, fun i c hi hc => ?_⟩
        · rcases (at_put hfr.lt).1 h with ⟨rfl, rfl⟩ | ⟨_, h, _⟩
          · exact ⟨by omega, hp⟩
          · exact ⟨by have := (h2 i c h).1; omega, (h2 i c h).2⟩
        · by_cases e : i = k
          · subst e; rw [hp] at hc; cases hc
            exact ⟨i, b, (at_put hfr.lt).2 (.inl ⟨rfl, rfl⟩), rfl, Int.le_refl _⟩
          · obtain ⟨j, d, hd, e1, e2⟩ := h3 i c (by omega) hc
            by_cases e3 : d.id = b.id
            · refine ⟨k, b, (at_put hfr.lt).2 (.inl ⟨rfl, rfl⟩), e3.symm.trans e1, ?_⟩
              have := hn' j d hd e3; omega
            · exact ⟨j, d, (at_put hfr.lt).2 (.inr ⟨fun e4 => hfr.not (e4 ▸ hd), hd, e3⟩), e1, e2⟩
      · next hnw =>
        refine ⟨h1, fun i c h => ⟨by have := (h2 i c h).1; omega, (h2 i c h).2⟩, fun i c hi hc => ?_⟩
        by_cases e : i = k
        · subst e; rw [hp] at hc; cases hc
          unfold newer at hnw
          cases hg : getL (scan f n i) b.id with
          | none => rw [hg] at hnw; exact absurd rfl hnw
          | some d =>
            rw [hg] at hnw
            obtain ⟨⟨j, hj⟩, e1⟩ := getL_some hg
            exact ⟨j, d, hj, e1, by simpa using hnw⟩
        · exact h3 i c (by omega) hc
/-- The sectors that are marked, and hold no block. -/
def mrk (s : List UInt8) : Prop := bt (str s) 0 = 1
instance (s : List UInt8) : Decidable (mrk s) := by unfold mrk; infer_instance
noncomputable def odds (f : Nat → List UInt8) : Nat → List Nat
  | 0 => []
  | k + 1 => if (parse (str (f k))).isNone ∧ mrk (f k) then odds f k ++ [k] else odds f k

/-! ### what lies on a plate -/
/-- The sectors f are just as L says: each block's record in its sector; in a free one nothing that is marked, or what is superseded. -/
structure Fit (f : Nat → List UInt8) (L : Lay) : Prop where
  good : GoodL L
  on : ∀ i b, At L i b → str (f i) = recB b 1
  off : ∀ i, Fre L i → (parse (str (f i)) = none ∧ ¬ mrk (f i)) ∨ ∃ c j b, refE c 1 = 0 ∧ str (f i) = recB c 1 ∧ At L j b ∧ b.id = c.id ∧ c.ver < b.ver
theorem Fit.opens {f : Nat → List UInt8} {L : Lay} (h : Fit f L) : scan f L.length L.length = L ∧ odds f L.length = [] := by
  obtain ⟨h1, h2, h3⟩ := scan_good (f := f) (n := L.length) h.good.hi L.length (Nat.le_refl _)
  have hon : ∀ i b, At L i b → At (scan f L.length L.length) i b := by
    intro i b hb
    obtain ⟨j, c, hc, e1, e2⟩ := h3 i b hb.lt (parse_of (h.good.ok i b hb) (h.on i b hb).symm)
    obtain ⟨hjl, hp⟩ := h2 j c hc
    cases hx : L[j] with
    | some d =>
      have hd : At L j d := by unfold At; rw [List.getElem?_eq_getElem hjl, hx]
      have : d = c := by
        have := parse_of (h.good.ok j d hd) (h.on j d hd).symm
        rw [hp] at this; exact (Option.some.inj this).symm
      subst this
      obtain rfl := h.good.un i j b d hb hd e1.symm
      rw [hb.fn hd]; exact hc
    | none =>
      have hf : Fre L j := by unfold Fre; rw [List.getElem?_eq_getElem hjl, hx]
      rcases h.off j hf with ⟨hn, _⟩ | ⟨c', k, b', hc', e3, hb', e4, e5⟩
      · rw [hp] at hn; cases hn
      · have : c' = c := by
          have := parse_of hc' e3.symm
          rw [hp] at this; exact (Option.some.inj this).symm
        subst this
        have := h.good.eq hb hb' (e1.symm.trans e4.symm)
        subst this
        omega
  constructor
  · apply List.ext_getElem?
    intro i
    by_cases hi : i < L.length
    · cases hx : L[i] with
      | some b =>
        have hb : At L i b := by unfold At; rw [List.getElem?_eq_getElem hi, hx]
        rw [show L[i]? = some (some b) from hb]; exact hon i b hb
      | none =>
        have hf : Fre L i := by unfold Fre; rw [List.getElem?_eq_getElem hi, hx]
        have hi' : i < (scan f L.length L.length).length := by rw [scan_length]; exact hi
        rw [show L[i]? = some none from hf, List.getElem?_eq_getElem hi']
        cases hy : (scan f L.length L.length)[i] with
        | none => rfl
        | some c =>
          exfalso
          have hc : At (scan f L.length L.length) i c := by unfold At; rw [List.getElem?_eq_getElem hi', hy]
          obtain ⟨_, hp⟩ := h2 i c hc
          rcases h.off i hf with ⟨hn, _⟩ | ⟨c', k, b', hc', e3, hb', e4, e5⟩
          · rw [hp] at hn; cases hn
          · have : c' = c := by
              have := parse_of hc' e3.symm
              rw [hp] at this; exact (Option.some.inj this).symm
            subst this
            obtain rfl := h1.un i k _ b' hc (hon k b' hb') e4.symm
            exact hf.not hb'
    · rw [List.getElem?_eq_none (l := L) (by omega), List.getElem?_eq_none (by rw [scan_length]; omega)]
  · have : ∀ k, k ≤ L.length → odds f k = [] := by
      intro k
      induction k with
      | zero => intro _; rfl
      | succ k ih =>
        intro hk
        unfold odds
        rw [if_neg, ih (by omega)]
        rintro ⟨hn, hm⟩
        have hkl : k < L.length := by omega
        cases hx : L[k] with
        | some b =>
          have hb : At L k b := by unfold At; rw [List.getElem?_eq_getElem hkl, hx]
          rw [parse_of (h.good.ok k b hb) (h.on k b hb).symm] at hn; cases hn
        | none =>
          have hf : Fre L k := by unfold Fre; rw [List.getElem?_eq_getElem hkl, hx]
          rcases h.off k hf with ⟨_, hm'⟩ | ⟨c', j, b', hc', e3, _⟩
          · exact hm' hm
          · rw [parse_of hc' e3.symm] at hn; cases hn
    exact this _ (Nat.le_refl _)
/-- A new plate's sectors. -/
theorem Fit.zero {f : Nat → List UInt8} {n : Nat} (hn : n ≤ 128) (h : ∀ i, i < n → f i = zeros 32) : Fit f (List.replicate n none) := by
  refine ⟨⟨by simpa using hn, fun i b h => (at_replicate h).elim, fun i j b c h => (at_replicate h).elim⟩, fun i b h => (at_replicate h).elim, fun i hi => ?_⟩
  left
  rw [h i (by simpa using hi.lt)]
  exact ⟨parse_zeros, by unfold mrk; decide +kernel⟩
/-- Nothing but the free sector i has turned; it holds nothing that is marked. -/
theorem Fit.torn {f g : Nat → List UInt8} {L : Lay} (h : Fit f L) {i : Nat} (hi : Fre L i) (hg : ∀ j, j < L.length → j ≠ i → g j = f j) (hp : ¬ mrk (g i)) : Fit g L := by
  refine ⟨h.good, fun j b hb => ?_, fun j hj => ?_⟩
  · rw [hg j hb.lt (fun e => hi.not (e ▸ hb))]; exact h.on j b hb
  · by_cases e : j = i
    · subst e; exact .inl ⟨parse_head hp, hp⟩
    · rw [hg j hj.lt e]; exact h.off j hj
theorem Fit.same {f g : Nat → List UInt8} {L : Lay} (h : Fit f L) (hg : ∀ j, j < L.length → g j = f j) : Fit g L := by
  refine ⟨h.good, fun j b hb => ?_, fun j hj => ?_⟩
  · rw [hg j hb.lt]; exact h.on j b hb
  · rw [hg j hj.lt]; exact h.off j hj
/-- It holds b, which is newer. -/
theorem Fit.put {f g : Nat → List UInt8} {L : Lay} (h : Fit f L) {i : Nat} (hi : Fre L i) (hg : ∀ j, j < L.length → j ≠ i → g j = f j) {b : Bk} (hb : refE b 1 = 0) (hn : newer L b = true) (hp : str (g i) = recB b 1) : Fit g (putL L i b) := by
  have hn' := (newer_iff h.good).1 hn
  refine ⟨h.good.put hi.lt hb, fun j c hc => ?_, fun j hj => ?_⟩
  · rcases (at_put hi.lt).1 hc with ⟨rfl, rfl⟩ | ⟨e, hc, _⟩
    · exact hp
    · rw [hg j hc.lt e]; exact h.on j c hc
  · have hjl : j < L.length := by have := hj.lt; rwa [putL_length] at this
    by_cases e : j = i
    · subst e; exact (hj.not ((at_put hi.lt).2 (.inl ⟨rfl, rfl⟩))).elim
    · rw [hg j hjl e]
      cases hx : L[j] with
      | some c =>
        have hc : At L j c := by unfold At; rw [List.getElem?_eq_getElem hjl, hx]
        by_cases e2 : c.id = b.id
        · exact .inr ⟨c, i, b, h.good.ok j c hc, h.on j c hc, (at_put hi.lt).2 (.inl ⟨rfl, rfl⟩), e2.symm, hn' j c hc e2⟩
        · exact (hj.not ((at_put hi.lt).2 (.inr ⟨e, hc, e2⟩))).elim
      | none =>
        have hf : Fre L j := by unfold Fre; rw [List.getElem?_eq_getElem hjl, hx]
        rcases h.off j hf with h1 | ⟨c, k, d, hc, e3, hd, e4, e5⟩
        · exact .inl h1
        · refine .inr ⟨c, ?_⟩
          by_cases e6 : d.id = b.id
          · have := hn' k d hd e6
            exact ⟨i, b, hc, e3, (at_put hi.lt).2 (.inl ⟨rfl, rfl⟩), e6.symm.trans e4, by omega⟩
          · exact ⟨k, d, hc, e3, (at_put hi.lt).2 (.inr ⟨fun e7 => hi.not (e7 ▸ hd), hd, e6⟩), e4, e5⟩
/-- The marks of a block's records are taken. -/
theorem Fit.drop {f g : Nat → List UInt8} {L : Lay} (h : Fit f L) (id : Int) (hg : ∀ j, j < L.length → (∀ b, parse (str (f j)) = some b → b.id ≠ id) → g j = f j) (hm : ∀ j b, j < L.length → parse (str (f j)) = some b → b.id = id → ¬ mrk (g j)) : Fit g (woL L id) := by
  refine ⟨h.good.wo id, fun j c hc => ?_, fun j hj => ?_⟩
  · obtain ⟨hc, e⟩ := at_wo.1 hc
    have hp := parse_of (h.good.ok j c hc) (h.on j c hc).symm
    rw [hg j hc.lt (fun b hb => by rw [hp] at hb; cases hb; exact e)]; exact h.on j c hc
  · have hjl : j < L.length := by have := hj.lt; rwa [woL_length] at this
    cases hx : parse (str (f j)) with
    | some c =>
      by_cases e : c.id = id
      · have := hm j c hjl hx e
        exact .inl ⟨parse_head this, this⟩
      · rw [hg j hjl (fun b hb => by rw [hx] at hb; cases hb; exact e)]
        cases hy : L[j] with
        | some d =>
          have hd : At L j d := by unfold At; rw [List.getElem?_eq_getElem hjl, hy]
          have : d = c := by
            have := parse_of (h.good.ok j d hd) (h.on j d hd).symm
            rw [hx] at this; exact (Option.some.inj this).symm
          subst this
          exact (hj.not (at_wo.2 ⟨hd, e⟩)).elim
        | none =>
          have hf : Fre L j := by unfold Fre; rw [List.getElem?_eq_getElem hjl, hy]
          rcases h.off j hf with h1 | ⟨c', k, d, hc, e3, hd, e4, e5⟩
          · exact .inl h1
          · have : c' = c := by
              have := parse_of hc e3.symm
              rw [hx] at this; exact (Option.some.inj this).symm
            subst this
            exact .inr ⟨c', k, d, hc, e3, at_wo.2 ⟨hd, by rw [e4]; exact e⟩, e4, e5⟩
    | none =>
      rw [hg j hjl (fun b hb => by rw [hx] at hb; cases hb)]
      cases hy : L[j] with
      | some d =>
        have hd : At L j d := by unfold At; rw [List.getElem?_eq_getElem hjl, hy]
        have := parse_of (h.good.ok j d hd) (h.on j d hd).symm
        rw [hx] at this; cases this
      | none =>
        have hf : Fre L j := by unfold Fre; rw [List.getElem?_eq_getElem hjl, hy]
        rcases h.off j hf with h1 | ⟨c', k, d, hc, e3, hd, e4, e5⟩
        · exact .inl h1
        · have := parse_of hc e3.symm; rw [hx] at this; cases this
/-- A block lies there just if a record of its number is there. -/
theorem Fit.has {f : Nat → List UInt8} {L : Lay} (h : Fit f L) (id : Int) : (getL L id).isSome = true ↔ ∃ j b, j < L.length ∧ parse (str (f j)) = some b ∧ b.id = id := by
  constructor
  · intro hs
    obtain ⟨b, hb⟩ := Option.isSome_iff_exists.1 hs
    obtain ⟨⟨j, hj⟩, e⟩ := getL_some hb
    exact ⟨j, b, hj.lt, parse_of (h.good.ok j b hj) (h.on j b hj).symm, e⟩
  · rintro ⟨j, b, hj, hp, rfl⟩
    cases hy : L[j] with
    | some d =>
      have hd : At L j d := by unfold At; rw [List.getElem?_eq_getElem hj, hy]
      have := parse_of (h.good.ok j d hd) (h.on j d hd).symm
      rw [hp] at this
      rw [Option.some.inj this, getL_at h.good hd]; rfl
    | none =>
      have hf : Fre L j := by unfold Fre; rw [List.getElem?_eq_getElem hj, hy]
      rcases h.off j hf with ⟨h1, _⟩ | ⟨c', k, d, hc, e3, hd, e4, e5⟩
      · rw [hp] at h1; cases h1
      · have := parse_of hc e3.symm
        rw [hp] at this
        rw [Option.some.inj this, ← e4, getL_at h.good hd]; rfl
end Go.Proofs.YtacdbfaoeioflaaGreatDoor

namespace Go.Proofs.YtacdbfaoeioflaaGreatDoor
open Go.RowKit Go.PlainAid

/-! ### the plate -/
theorem count_parts (s : St) (h : countE s = 0) : (count s).is = s.is ∧ (count s).wait = s.wait ∧ (count s).gone = s.gone ∧ ((count s).left = 0 ↔ s.left = 0) := by
  unfold countE at h
  unfold count
  by_cases h0 : s.left = 0
  · rw [if_pos h0]; simp [h0]
  · have h1 : ¬ s.left = 1 := fun e => by rw [if_pos e] at h; omega
    rw [if_neg h0, if_neg h1]; simp; omega
theorem wrong_in {s : St} (hg : s.gone = false) {i : Nat} (hi : i < s.is.length) : wrong s i = 0 := by
  unfold wrong; rw [hg, if_neg (by simp), if_neg (by omega)]
theorem writeE_in {s : St} (hg : s.gone = false) {i : Nat} (hi : i < s.is.length) {t : ByteArray} (ht : t.size = 32) : writeE s i t = countE s ∧ writeS s i t = count (add s i t) := by
  have := wrong_in hg hi
  unfold writeE writeS
  rw [this]
  exact ⟨by rw [if_neg (by omega), if_neg (by omega)], by rw [if_neg (by omega)]⟩
theorem pad_full {t : ByteArray} (ht : t.size = 32) : pad t = t.data.toList := by unfold pad; rw [ht]; simp [zeros]
theorem seen_append (ws : List Wr) (x : Wr) (i : Nat) (old : List UInt8) : ∀ j, j ≤ ws.length → seen (ws ++ [x]) i old j = seen ws i old j
  | 0, _ => rfl
  | j + 1, hj => by
    unfold seen
    rw [List.getElem?_append_left (by omega), seen_append ws x i old j (by omega)]
theorem done_seen {ws : List Wr} {is : List (List UInt8)} (h : ∀ i, i < is.length → (is.getD i []).length = 32) (hw : ∀ x ∈ ws, x.i < is.length ∧ x.b.length = 32) (i : Nat) (j : Nat) : (done (fun _ => 32) ws is j).getD i [] = seen ws i (is.getD i []) j := by
  induction j with
  | zero => rfl
  | succ j ih =>
    unfold done seen
    split
    · exact ih
    · next x hx =>
      obtain ⟨h1, h2⟩ := hw x (List.mem_of_getElem? hx)
      rw [getD_set (by rw [done_length]; exact h1)]
      by_cases e : i = x.i
      · rw [if_pos e, if_pos e.symm, ← e]
        exact mix_all h2 (done_sec h hw j i (by rw [e]; exact h1))
      · rw [if_neg e, if_neg (fun q => e q.symm)]
        exact ih
theorem read_write {s : St} (hg : s.gone = false) {i : Nat} (hi : i < s.is.length) {t : ByteArray} (ht : t.size = 32) (he : writeE s i t = 0) :
    (∀ j, readB (writeS s i t) j = if j = i then t.data.toList else readB s j) ∧ (writeS s i t).gone = false ∧ (writeS s i t).is = s.is ∧ (writeS s i t).wait = s.wait ++ [⟨i, t.data.toList⟩] := by
  obtain ⟨e1, e2⟩ := writeE_in hg hi ht
  rw [e1] at he
  have hc : countE (add s i t) = 0 := he
  obtain ⟨k1, k2, k3, -⟩ := count_parts _ hc
  rw [e2]
  refine ⟨fun j => ?_, by rw [k3]; exact hg, k1, ?_⟩
  · unfold readB
    rw [k1, k2]
    show seen (s.wait ++ [_]) j _ (s.wait ++ [_]).length = _
    rw [List.length_append]
    show seen (s.wait ++ [_]) j _ (s.wait.length + 1) = _
    rw [seen]
    simp only [List.getElem?_concat_length]
    rw [seen_append _ _ _ _ _ (Nat.le_refl _), Int.toNat_natCast, pad_full ht]
    by_cases e : j = i
    · rw [if_pos e, if_pos e.symm]
    · rw [if_neg e, if_neg (fun q => e q.symm)]; rfl
  · rw [k2]; unfold add; rw [Int.toNat_natCast, pad_full ht]
theorem read_sync {s : St} (hG : Good s) (he : syncE s = 0) : (∀ j, readB (syncS s) j = readB s j) ∧ (syncS s).gone = false ∧ s.gone = false ∧ (syncS s).wait = [] ∧ (syncS s).is.length = s.is.length := by
  unfold syncE at he
  by_cases hc : s.gone ∨ s.left = 1
  · rw [if_pos hc] at he; omega
  · obtain ⟨c1, c2⟩ := not_or.1 hc
    have c1' : s.gone = false := by simpa using c1
    have hce : countE s = 0 := by unfold countE; rw [if_neg c2]
    obtain ⟨k1, k2, k3, -⟩ := count_parts s hce
    unfold syncS
    rw [if_neg (by simpa using c1), if_neg c2]
    refine ⟨fun j => ?_, by show (count s).gone = false; rw [k3]; exact c1', c1', rfl, by show (done _ _ _ _).length = _; rw [done_length, k1]⟩
    unfold readB
    show (done (fun _ => 32) (count s).wait (count s).is (count s).wait.length).getD j [] = _
    rw [k1, k2]
    exact done_seen hG.sec hG.wt j _
theorem syncS_is {s : St} (he : syncE s = 0) : (syncS s).is = done (fun _ => 32) s.wait s.is s.wait.length ∧ (syncS s).wait = [] ∧ (syncS s).gone = false := by
  unfold syncE at he
  by_cases hc : s.gone ∨ s.left = 1
  · rw [if_pos hc] at he; omega
  · obtain ⟨c1, c2⟩ := not_or.1 hc
    have c1' : s.gone = false := by simpa using c1
    have hce : countE s = 0 := by unfold countE; rw [if_neg c2]
    obtain ⟨k1, k2, k3, -⟩ := count_parts s hce
    unfold syncS
    rw [if_neg (by simpa using c1), if_neg c2]
    exact ⟨by show done _ (count s).wait (count s).is (count s).wait.length = _; rw [k1, k2], rfl, by show (count s).gone = false; rw [k3]; exact c1'⟩
theorem readB_rest {s : St} (h : s.wait = []) (i : Nat) : readB s i = s.is.getD i [] := by unfold readB; rw [h]; rfl
/-- Nothing waits where there is no power. -/
def Still (s : St) : Prop := s.gone = true → s.wait = []
theorem Still.crash (s : St) (keep : Nat) (h : Still s) : (crash s keep).wait = [] ∧ (crash s keep).gone = true := by
  unfold Go.Proofs.YtacdbfaoeioflaaGreatDoor.crash
  by_cases hg : s.gone = true
  · rw [if_pos hg]; exact ⟨h hg, hg⟩
  · rw [if_neg hg]; exact ⟨rfl, rfl⟩
theorem Still.count {s : St} (h : Still s) : Still (count s) := by
  unfold Go.Proofs.YtacdbfaoeioflaaGreatDoor.count
  by_cases h0 : s.left = 0
  · rw [if_pos h0]; exact h
  · rw [if_neg h0]
    by_cases h1 : s.left = 1
    · rw [if_pos h1]; exact fun _ => (Still.crash _ _ (by exact h)).1
    · rw [if_neg h1]; exact h
theorem Still.write {s : St} (h : Still s) (i : Int) (t : ByteArray) : Still (writeS s i t) := by
  unfold writeS
  by_cases hc : wrong s i ≠ 0 ∨ 32 < t.size
  · rw [if_pos hc]; exact h
  · rw [if_neg hc]
    refine Still.count (s := add s i t) fun hg => ?_
    have : wrong s i = 0 := by omega
    have := (wrong_zero this).1
    rw [show (add s i t).gone = s.gone from rfl, this] at hg; cases hg
theorem Still.sync {s : St} (h : Still s) : (syncS s).wait = [] := by
  unfold syncS
  by_cases hg : s.gone = true
  · rw [if_pos hg]; exact h hg
  · rw [if_neg hg]
    by_cases h1 : s.left = 1
    · rw [if_pos h1]
      unfold Go.Proofs.YtacdbfaoeioflaaGreatDoor.count
      rw [if_neg (by omega), if_pos h1]
      exact (Still.crash _ _ (by exact fun e => absurd e hg)).1
    · rw [if_neg h1]; rfl
theorem still_of {s : St} (h : s.wait = []) : Still s := fun _ => h
theorem writeE_dead {s : St} {i : Nat} (hi : i < s.is.length) {t : ByteArray} (ht : t.size = 32) (he : writeE s i t ≠ 0) : writeE s i t = 70 ∧ (writeS s i t).gone = true ∧ (Still s → (writeS s i t).wait = []) := by
  by_cases hg : s.gone = true
  · have hw : wrong s i = 70 := by unfold wrong; rw [if_pos hg]
    unfold writeE writeS
    rw [hw, if_pos (by omega), if_pos (by omega)]
    exact ⟨rfl, hg, fun h => h hg⟩
  · have hg' : s.gone = false := by simpa using hg
    obtain ⟨e1, e2⟩ := writeE_in hg' hi ht
    rw [e1] at he ⊢
    rw [e2]
    have h1 : s.left = 1 := by
      by_cases h1 : s.left = 1
      · exact h1
      · unfold countE at he; rw [if_neg h1] at he; exact absurd rfl he
    refine ⟨by unfold countE; rw [if_pos h1], ?_, fun _ => ?_⟩
    · unfold count; rw [if_neg (by show ¬ s.left = 0; omega), if_pos (by exact h1)]
      exact (Still.crash _ _ (by exact fun e => absurd e hg)).2
    · unfold count; rw [if_neg (by show ¬ s.left = 0; omega), if_pos (by exact h1)]
      exact (Still.crash _ _ (by exact fun e => absurd e hg)).1
theorem syncE_dead {s : St} (he : syncE s ≠ 0) : syncE s = 70 ∧ (syncS s).gone = true := by
  unfold syncE at he ⊢
  by_cases hc : s.gone ∨ s.left = 1
  · rw [if_pos hc]
    refine ⟨rfl, ?_⟩
    unfold syncS
    by_cases hg : s.gone = true
    · rw [if_pos hg]; exact hg
    · rw [if_neg hg, if_pos (by rcases hc with h | h; (exact absurd h hg); (exact h))]
      unfold count
      have h1 : s.left = 1 := by rcases hc with h | h; (exact absurd h hg); (exact h)
      rw [if_neg (by omega), if_pos h1]
      unfold crash
      rw [if_neg (by exact hg)]
  · rw [if_neg hc] at he; omega
theorem write_len (s : St) (i : Int) (t : ByteArray) : (writeS s i t).is.length = s.is.length := by
  unfold writeS
  split
  · rfl
  · have hc : ∀ x : St, (count x).is.length = x.is.length := fun x => by
      unfold count; split
      · rfl
      · split
        · unfold crash; split
          · rfl
          · exact done_length _ _ _ _
        · rfl
    rw [hc]; rfl
theorem sync_len (s : St) : (syncS s).is.length = s.is.length := by
  have hc : ∀ x : St, (count x).is.length = x.is.length := fun x => by
    unfold count; split
    · rfl
    · split
      · unfold crash; split
        · rfl
        · exact done_length _ _ _ _
      · rfl
  unfold syncS
  split
  · rfl
  · split
    · exact hc s
    · show (done _ _ _ _).length = _; rw [done_length]; exact hc s
theorem crash_len (s : St) (k : Nat) : (crash s k).is.length = s.is.length := by
  unfold crash; split
  · rfl
  · exact done_length _ _ _ _

/-! ### a record is written -/
def wr1E (s : St) (i : Nat) (t : ByteArray) : Int := if writeE s i t ≠ 0 then writeE s i t else syncE (writeS s i t)
def wr1S (s : St) (i : Nat) (t : ByteArray) : St := if writeE s i t ≠ 0 then writeS s i t else syncS (writeS s i t)
def wrE (s : St) (i : Nat) (b : Bk) : Int := if wr1E s i (recB b 0) ≠ 0 then wr1E s i (recB b 0) else wr1E (wr1S s i (recB b 0)) i (recB b 1)
def wrS (s : St) (i : Nat) (b : Bk) : St := if wr1E s i (recB b 0) ≠ 0 then wr1S s i (recB b 0) else wr1S (wr1S s i (recB b 0)) i (recB b 1)
/-- What a plate is at rest: how many sectors, how many calls. -/
structure Rest (s : St) (n k : Nat) : Prop where
  good : Good s
  wait : s.wait = []
  len : s.is.length = n
  few : s.n ≤ k
theorem Rest.mono {s : St} {n k k' : Nat} (h : Rest s n k) (hk : k ≤ k') : Rest s n k' := ⟨h.good, h.wait, h.len, Nat.le_trans h.few hk⟩
theorem Rest.wr1 {s : St} {n k : Nat} (h : Rest s n k) {i : Nat} (hi : i < n) {t : ByteArray} (ht : t.size = 32) : Rest (wr1S s i t) n (k + 2) := by
  have h1 := h.good.write i t
  have hs := still_of h.wait
  have h3 : (writeS s i t).n ≤ s.n + 1 := write_n s i t
  have hf := h.few
  have hil : i < s.is.length := by rw [h.len]; exact hi
  unfold wr1S
  by_cases he : writeE s i t ≠ 0
  · rw [if_pos he]
    exact ⟨h1, (writeE_dead hil ht he).2.2 hs, by rw [write_len]; exact h.len, by omega⟩
  · rw [if_neg he]
    have h4 : (syncS (writeS s i t)).n ≤ (writeS s i t).n + 1 := sync_n _
    exact ⟨h1.sync, (hs.write i t).sync, by rw [sync_len, write_len]; exact h.len, by omega⟩
theorem wr1_dead {s : St} {i : Nat} (hi : i < s.is.length) {t : ByteArray} (ht : t.size = 32) (he : wr1E s i t ≠ 0) : wr1E s i t = 70 ∧ (wr1S s i t).gone = true := by
  unfold wr1E wr1S at *
  by_cases hw : writeE s i t ≠ 0
  · rw [if_pos hw] at he ⊢; rw [if_pos hw]
    exact ⟨(writeE_dead hi ht hw).1, (writeE_dead hi ht hw).2.1⟩
  · rw [if_neg hw] at he ⊢; rw [if_neg hw]; exact syncE_dead he
theorem Rest.wr {s : St} {n k : Nat} (h : Rest s n k) {i : Nat} (hi : i < n) {b : Bk} (hb : refE b 1 = 0) : Rest (wrS s i b) n (k + 4) := by
  have hz := (refE_zero.1 hb).2
  have h1 := h.wr1 hi (recB_size hz 0)
  unfold wrS
  split
  · exact h1.mono (by omega)
  · exact (h1.wr1 hi (recB_size hz 1)).mono (by omega)
theorem Rest.wr_dead {s : St} {n k : Nat} (h : Rest s n k) {i : Nat} (hi : i < n) {b : Bk} (hb : refE b 1 = 0) (he : wrE s i b ≠ 0) : wrE s i b = 70 ∧ (wrS s i b).gone = true := by
  have hz := (refE_zero.1 hb).2
  have h1 := h.wr1 hi (recB_size hz 0)
  unfold wrE wrS at *
  by_cases hw : wr1E s i (recB b 0) ≠ 0
  · rw [if_pos hw] at he ⊢; rw [if_pos hw]; exact wr1_dead (by rw [h.len]; exact hi) (recB_size hz 0) hw
  · rw [if_neg hw] at he ⊢; rw [if_neg hw]; exact wr1_dead (by rw [h1.len]; exact hi) (recB_size hz 1) he
/-- What a sector holds at the end of one write, kept or torn. -/
theorem Rest.wr1_out {s : St} {n k : Nat} (h : Rest s n k) (hg : s.gone = false) {i : Nat} (hi : i < n) {t : ByteArray} (ht : t.size = 32) :
    (∀ j, j ≠ i → readB (wr1S s i t) j = readB s j) ∧ (wr1E s i t = 0 → readB (wr1S s i t) i = t.data.toList ∧ (wr1S s i t).gone = false) ∧
    (wr1E s i t ≠ 0 → ∃ q, q % 2 = 0 ∧ readB (wr1S s i t) i = mix q t.data.toList (readB s i)) := by
  have hR := h.wr1 hi ht
  have hil : i < s.is.length := by rw [h.len]; exact hi
  have ht' : t.data.toList.length = 32 := ht
  have hsl : (readB s i).length = 32 := readB_length h.good hil
  unfold wr1S wr1E at *
  obtain ⟨e1, e2⟩ := writeE_in hg hil ht
  by_cases hw : writeE s i t ≠ 0
  · rw [if_pos hw] at hR
    rw [if_pos hw, if_pos hw]
    have h1 : s.left = 1 := by
      by_cases h1 : s.left = 1
      · exact h1
      · rw [e1] at hw; unfold countE at hw; rw [if_neg h1] at hw; exact absurd rfl hw
    have e3 : (writeS s i t).is = s.is.set i (mix (part s.keep 0) t.data.toList (s.is.getD i [])) := by
      rw [e2]
      unfold count
      rw [if_neg (by show ¬ s.left = 0; omega), if_pos (by exact h1)]
      unfold crash
      rw [if_neg (by show ¬ s.gone = true; rw [hg]; simp)]
      show done (part s.keep) (s.wait ++ [_]) s.is (s.wait ++ [_]).length = _
      rw [h.wait]
      show done _ [(⟨(i : Int).toNat, pad t⟩ : Wr)] s.is 1 = _
      rw [done_succ (w := ⟨(i : Int).toNat, pad t⟩) rfl, Int.toNat_natCast, pad_full ht]; rfl
    refine ⟨fun j hj => ?_, fun he => absurd he hw, fun _ => ⟨_, part_even s.keep 0, ?_⟩⟩
    · rw [readB_rest hR.wait, readB_rest h.wait, e3, getD_set hil, if_neg hj]
    · rw [readB_rest hR.wait, readB_rest h.wait, e3, getD_set hil, if_pos rfl]
  · rw [if_neg hw] at hR
    rw [if_neg hw, if_neg hw]
    have hw0 : writeE s i t = 0 := by omega
    obtain ⟨k1, k2, k3, k4⟩ := read_write hg hil ht hw0
    have hGw := h.good.write i t
    by_cases hs : syncE (writeS s i t) = 0
    · obtain ⟨q1, q2, -, q3, -⟩ := read_sync hGw hs
      refine ⟨fun j hj => ?_, fun _ => ⟨?_, q2⟩, fun he => absurd hs he⟩
      · rw [q1, k1, if_neg hj]
      · rw [q1, k1, if_pos rfl]
    · have h1 : (writeS s i t).left = 1 := by
        unfold syncE at hs
        by_cases hc : (writeS s i t).gone ∨ (writeS s i t).left = 1
        · rcases hc with hc | hc
          · rw [k2] at hc; cases hc
          · exact hc
        · rw [if_neg hc] at hs; omega
      have e3 : (syncS (writeS s i t)).is = s.is.set i (mix (part (writeS s i t).keep 0) t.data.toList (s.is.getD i [])) := by
        unfold syncS
        rw [if_neg (by rw [k2]; simp), if_pos h1]
        unfold count
        rw [if_neg (by omega), if_pos h1]
        unfold crash
        rw [if_neg (by show ¬ (writeS s i t).gone = true; rw [k2]; simp)]
        show done (part _) (writeS s i t).wait (writeS s i t).is (writeS s i t).wait.length = _
        rw [k4, k3, h.wait]
        show done _ [(⟨i, t.data.toList⟩ : Wr)] s.is 1 = _
        rw [done_succ (w := ⟨i, t.data.toList⟩) rfl]; rfl
      refine ⟨fun j hj => ?_, fun he => absurd he hs, fun _ => ⟨_, part_even (writeS s i t).keep 0, ?_⟩⟩
      · rw [readB_rest hR.wait, readB_rest h.wait, e3, getD_set hil, if_neg hj]
      · rw [readB_rest hR.wait, readB_rest h.wait, e3, getD_set hil, if_pos rfl]
theorem rec_list (b : Bk) (m : Int) : (recB b m).data.toList = UInt8.ofNat m.toNat :: (sealB b).data.toList := by simp [recB, ByteArray.data_append, strOfNums]
theorem mrk_cons (x : UInt8) (l : List UInt8) : mrk (x :: l) ↔ x = 1 := by
  have h0 : 0 < (str (x :: l)).size := by rw [str_size]; simp
  unfold mrk bt
  rw [dif_pos h0]
  have : (str (x :: l))[0]'h0 = x := rfl
  rw [this]
  constructor
  · intro h; apply UInt8.toNat_inj.1; have : x.toNat = 1 := by exact_mod_cast h
    simpa using this
  · rintro rfl; rfl
/-- Behind a Put that was cut off, or wasn't, the free sector that it took holds what it did, or nothing that is marked, or the block's record. -/
theorem Rest.wr_out {s : St} {n k : Nat} (h : Rest s n k) (hg : s.gone = false) {i : Nat} (hi : i < n) {b : Bk} (hb : refE b 1 = 0) :
    (∀ j, j ≠ i → readB (wrS s i b) j = readB s j) ∧ (wrE s i b = 0 → str (readB (wrS s i b) i) = recB b 1 ∧ (wrS s i b).gone = false) ∧
    (readB (wrS s i b) i = readB s i ∨ ¬ mrk (readB (wrS s i b) i) ∨ str (readB (wrS s i b) i) = recB b 1) := by
  have hz := (refE_zero.1 hb).2
  have hR := h.wr1 hi (recB_size hz 0)
  obtain ⟨a1, a2, a3⟩ := h.wr1_out hg hi (recB_size hz 0)
  have hhead : ∀ (q : Nat) (l : List UInt8), q % 2 = 0 → mix q (recB b 0).data.toList l = l ∨ ¬ mrk (mix q (recB b 0).data.toList l) := by
    intro q l hq
    rw [rec_list]
    cases q with
    | zero => left; simp [mix]
    | succ q =>
      right
      unfold mix
      rw [List.take_succ_cons, List.cons_append, mrk_cons]
      decide
  unfold wrS wrE at *
  by_cases hw : wr1E s i (recB b 0) ≠ 0
  · rw [if_pos hw, if_pos hw]
    refine ⟨a1, fun he => absurd he hw, ?_⟩
    obtain ⟨q, hq, e⟩ := a3 hw
    rw [e]
    rcases hhead q (readB s i) hq with h1 | h1
    · exact .inl h1
    · exact .inr (.inl h1)
  · rw [if_neg hw, if_neg hw]
    obtain ⟨e1, hg1⟩ := a2 (by omega)
    obtain ⟨b1, b2, b3⟩ := hR.wr1_out hg1 hi (recB_size hz 1)
    refine ⟨fun j hj => (b1 j hj).trans (a1 j hj), fun he => ?_, ?_⟩
    · obtain ⟨e2, e3⟩ := b2 he
      exact ⟨by rw [e2]; exact str_of _, e3⟩
    · by_cases he : wr1E (wr1S s i (recB b 0)) i (recB b 1) = 0
      · exact .inr (.inr (by rw [(b2 he).1]; exact str_of _))
      · obtain ⟨q, hq, e⟩ := b3 he
        rw [e, e1, rec_list, rec_list]
        cases q with
        | zero =>
          refine .inr (.inl ?_)
          unfold mix
          rw [List.take_zero, List.nil_append, List.drop_zero, mrk_cons]
          decide
        | succ q =>
          refine .inr (.inr ?_)
          unfold mix
          rw [List.take_succ_cons, List.drop_succ_cons, List.cons_append, List.take_append_drop, ← rec_list b 1]
          exact str_of _

/-! ### Put -/
def preE (L : Lay) (gone : Bool) (b : Bk) : Int := if refE b 1 ≠ 0 then refE b 1 else if gone then 70 else if newer L b = false then 5 else if low L = L.length then 2 else 0
def putE (L : Lay) (s : St) (b : Bk) : Int := if preE L s.gone b ≠ 0 then preE L s.gone b else wrE s (low L) b
def putS (L : Lay) (s : St) (b : Bk) : St := if preE L s.gone b ≠ 0 then s else wrS s (low L) b
def putY (L : Lay) (s : St) (b : Bk) : Lay := if putE L s b ≠ 0 then L else putL L (low L) b
theorem preE_zero {L : Lay} {g : Bool} {b : Bk} (h : preE L g b = 0) : refE b 1 = 0 ∧ g = false ∧ newer L b = true ∧ low L < L.length := by
  unfold preE at h
  have hl := low_le L
  by_cases h1 : refE b 1 ≠ 0
  · rw [if_pos h1] at h; exact absurd h h1
  · rw [if_neg h1] at h
    cases g
    · rw [if_neg (by simp)] at h
      cases hn : newer L b
      · rw [hn, if_pos rfl] at h; omega
      · rw [hn, if_neg (by simp)] at h
        by_cases h2 : low L = L.length
        · rw [if_pos h2] at h; omega
        · exact ⟨by omega, rfl, rfl, by omega⟩
    · rw [if_pos rfl] at h; omega
theorem Rest.put {s : St} {n k : Nat} (h : Rest s n k) {L : Lay} (hL : L.length = n) (b : Bk) : Rest (putS L s b) n (k + 4) := by
  unfold putS
  split
  · exact h.mono (by omega)
  · next hp =>
    obtain ⟨h1, h2, h3, h4⟩ := preE_zero (by omega : preE L s.gone b = 0)
    exact h.wr (by omega) h1
theorem putY_zero {L : Lay} {s : St} {b : Bk} (h : putE L s b = 0) : putY L s b = putL L (low L) b ∧ preE L s.gone b = 0 ∧ wrE s (low L) b = 0 ∧ putS L s b = wrS s (low L) b := by
  unfold putY putS
  rw [if_neg (by omega)]
  unfold putE at h
  by_cases hp : preE L s.gone b ≠ 0
  · rw [if_pos hp] at h; exact absurd h hp
  · rw [if_neg hp] at h; exact ⟨rfl, by omega, h, if_neg hp⟩
theorem putY_other {L : Lay} {s : St} {b : Bk} (h : putE L s b ≠ 0) : putY L s b = L := if_pos h
theorem putY_good {L : Lay} (hG : GoodL L) (s : St) (b : Bk) : GoodL (putY L s b) ∧ (putY L s b).length = L.length := by
  by_cases h : putE L s b = 0
  · obtain ⟨e, h1, -⟩ := putY_zero h
    obtain ⟨h2, -, -, h3⟩ := preE_zero h1
    rw [e]; exact ⟨hG.put h3 h2, putL_length _ _ _⟩
  · rw [putY_other h]; exact ⟨hG, rfl⟩
/-- What Get answers behind a Put. -/
theorem put_get {L : Lay} (hG : GoodL L) {s : St} {b : Bk} (h : putE L s b = 0) (id : Int) : getL (putY L s b) id = if id = b.id then some b else getL L id := by
  obtain ⟨e, h1, -⟩ := putY_zero h
  obtain ⟨h2, -, -, h3⟩ := preE_zero h1
  rw [e]; exact getL_put hG (low_free h3) h2 id

/-! ### Drop -/
def unm (x : List UInt8) : ByteArray := str (0 :: x.drop 1)
noncomputable def dk (T : Nat → List UInt8) (id : Int) (s : St) : Nat → Int × St × Bool
  | 0 => (0, s, false)
  | k + 1 => if (dk T id s k).1 ≠ 0 then dk T id s k else
    match parse (str (T k)) with
    | none => dk T id s k
    | some b => if b.id = id then (writeE (dk T id s k).2.1 k (unm (T k)), writeS (dk T id s k).2.1 k (unm (T k)), true) else dk T id s k
noncomputable def dropE (s : St) (id : Int) : Int :=
  if s.gone then 70 else if (dk (readB s) id s s.is.length).1 ≠ 0 then (dk (readB s) id s s.is.length).1 else if (dk (readB s) id s s.is.length).2.2 = false then 3 else syncE (dk (readB s) id s s.is.length).2.1
noncomputable def dropS (s : St) (id : Int) : St :=
  if s.gone then s else if (dk (readB s) id s s.is.length).1 ≠ 0 then (dk (readB s) id s s.is.length).2.1 else if (dk (readB s) id s s.is.length).2.2 = false then (dk (readB s) id s s.is.length).2.1 else syncS (dk (readB s) id s s.is.length).2.1
noncomputable def dropY (L : Lay) (s : St) (id : Int) : Lay := if dropE s id ≠ 0 then L else woL L id
theorem unm_size {x : List UInt8} (h : x.length = 32) : (unm x).size = 32 := by unfold unm; rw [str_size]; simp [h]
/-- What the first k sectors have come to. -/
structure Dk (s : St) (id : Int) (n c k : Nat) (r : Int × St × Bool) : Prop where
  good : Good r.2.1
  len : r.2.1.is.length = n
  still : Still r.2.1
  few : r.2.1.n ≤ c + k
  wt : r.2.1.wait.length ≤ k
  bad : r.1 ≠ 0 → r.1 = 70 ∧ r.2.1.gone = true
  live : r.1 = 0 → r.2.1.gone = false
  at_ : r.1 = 0 → ∀ j, readB r.2.1 j = if j < k ∧ (∃ b, parse (str (readB s j)) = some b ∧ b.id = id) then 0 :: (readB s j).drop 1 else readB s j
  some_ : r.1 = 0 → (r.2.2 = true ↔ ∃ j b, j < k ∧ parse (str (readB s j)) = some b ∧ b.id = id)
  none_ : r.1 = 0 → r.2.2 = false → r.2.1 = s
theorem Rest.dk {s : St} {n c : Nat} (h : Rest s n c) (hg : s.gone = false) (id : Int) : ∀ k, k ≤ n → Dk s id n c k (dk (readB s) id s k) := by
  intro k
  induction k with
  | zero =>
    intro _
    refine ⟨h.good, h.len, still_of h.wait, h.few, by show s.wait.length ≤ 0; rw [h.wait]; exact Nat.le_refl _, fun e => absurd rfl e, fun _ => hg, fun _ j => ?_, fun _ => ?_, fun _ _ => rfl⟩
    · rw [if_neg (by omega)]; rfl
    · simp [Go.Proofs.YtacdbfaoeioflaaGreatDoor.dk]
  | succ k ih =>
    intro hk
    have hI := ih (by omega)
    unfold Go.Proofs.YtacdbfaoeioflaaGreatDoor.dk
    by_cases he : (Go.Proofs.YtacdbfaoeioflaaGreatDoor.dk (readB s) id s k).1 ≠ 0
    · rw [if_pos he]
      exact ⟨hI.good, hI.len, hI.still, by have := hI.few; omega, by have := hI.wt; omega, hI.bad, fun e => absurd e he, fun e => absurd e he, fun e => absurd e he, fun e => absurd e he⟩
    · rw [if_neg he]
      have he0 : (Go.Proofs.YtacdbfaoeioflaaGreatDoor.dk (readB s) id s k).1 = 0 := by omega
      have hsame : (∀ b, parse (str (readB s k)) = some b → b.id ≠ id) → Dk s id n c (k + 1) (Go.Proofs.YtacdbfaoeioflaaGreatDoor.dk (readB s) id s k) := by
        intro hno
        refine ⟨hI.good, hI.len, hI.still, by have := hI.few; omega, by have := hI.wt; omega, hI.bad, hI.live, fun _ j => ?_, fun _ => ?_, hI.none_⟩
        · rw [hI.at_ he0 j]
          by_cases hc : j < k ∧ ∃ b, parse (str (readB s j)) = some b ∧ b.id = id
          · rw [if_pos hc, if_pos ⟨by omega, hc.2⟩]
          · rw [if_neg hc, if_neg]
            rintro ⟨h1, b, h2, h3⟩
            by_cases e : j = k
            · subst e; exact hno b h2 h3
            · exact hc ⟨by omega, b, h2, h3⟩
        · rw [hI.some_ he0]
          constructor
          · rintro ⟨j, b, h1, h2⟩; exact ⟨j, b, by omega, h2⟩
          · rintro ⟨j, b, h1, h2, h3⟩
            by_cases e : j = k
            · subst e; exact absurd h3 (hno b h2)
            · exact ⟨j, b, by omega, h2, h3⟩
      split
      · next hp => exact hsame fun b hb => by rw [hp] at hb; cases hb
      · next b hp =>
        by_cases hid : b.id = id
        · rw [if_pos hid]
          have hkl : k < (Go.Proofs.YtacdbfaoeioflaaGreatDoor.dk (readB s) id s k).2.1.is.length := by rw [hI.len]; omega
          have hT : (readB s k).length = 32 := readB_length h.good (by rw [h.len]; omega)
          have hsz := unm_size hT
          have hlive := hI.live he0
          generalize hd : Go.Proofs.YtacdbfaoeioflaaGreatDoor.dk (readB s) id s k = r at hI he0 hkl hlive ⊢
          have hn := write_n r.2.1 (k : Int) (unm (readB s k))
          have hw := write_wait r.2.1 (k : Int) (unm (readB s k))
          refine ⟨hI.good.write _ _, by show (writeS _ _ _).is.length = n; rw [write_len]; exact hI.len, hI.still.write _ _, by have := hI.few; show (writeS _ _ _).n ≤ _; omega, by have := hI.wt; show (writeS _ _ _).wait.length ≤ _; omega, fun e => ?_, fun e => ?_, fun e j => ?_, fun e => ?_, fun e ef => by cases ef⟩
          · obtain ⟨h1, h2, -⟩ := writeE_dead hkl hsz e; exact ⟨h1, h2⟩
          · exact (read_write hlive hkl hsz e).2.1
          · show readB (writeS _ _ _) j = _
            rw [(read_write hlive hkl hsz e).1 j, hI.at_ he0 j]
            by_cases ej : j = k
            · subst ej
              rw [if_pos rfl, if_pos ⟨by omega, b, hp, hid⟩]
              exact str_toList _
            · rw [if_neg ej]
              by_cases hc : j < k ∧ ∃ b, parse (str (readB s j)) = some b ∧ b.id = id
              · rw [if_pos hc, if_pos ⟨by omega, hc.2⟩]
              · rw [if_neg hc, if_neg (fun hx => hc ⟨by omega, hx.2⟩)]
          · exact ⟨fun _ => ⟨k, b, by omega, hp, hid⟩, fun _ => rfl⟩
        · rw [if_neg hid]
          exact hsame fun b' hb' => by rw [hp] at hb'; cases hb'; exact hid
/-- The sector k is read as it was, as long as no write failed. -/
theorem Rest.dk_same {s : St} {n c : Nat} (h : Rest s n c) (hg : s.gone = false) (id : Int) {k : Nat} (hk : k ≤ n) (he : (Go.Proofs.YtacdbfaoeioflaaGreatDoor.dk (readB s) id s k).1 = 0) : readB (Go.Proofs.YtacdbfaoeioflaaGreatDoor.dk (readB s) id s k).2.1 k = readB s k := by
  rw [(h.dk hg id k hk).at_ he k, if_neg (by omega)]
theorem Rest.drop {s : St} {n c : Nat} (h : Rest s n c) (id : Int) : Rest (dropS s id) n (c + n + 1) := by
  unfold dropS
  by_cases hg : s.gone = true
  · rw [if_pos hg]; exact h.mono (by omega)
  · rw [if_neg hg]
    have hI := h.dk (by simpa using hg) id n (Nat.le_refl _)
    rw [h.len]
    generalize Go.Proofs.YtacdbfaoeioflaaGreatDoor.dk (readB s) id s n = r at hI ⊢
    by_cases he : r.1 ≠ 0
    · rw [if_pos he]; exact ⟨hI.good, hI.still (hI.bad he).2, hI.len, by have := hI.few; omega⟩
    · rw [if_neg he]
      by_cases hf : r.2.2 = false
      · rw [if_pos hf, hI.none_ (by omega) hf]; exact h.mono (by omega)
      · rw [if_neg hf]
        have := sync_n r.2.1
        exact ⟨hI.good.sync, hI.still.sync, by rw [sync_len]; exact hI.len, by have := hI.few; omega⟩
theorem dropY_good {L : Lay} (hG : GoodL L) (s : St) (id : Int) : GoodL (dropY L s id) ∧ (dropY L s id).length = L.length := by
  unfold dropY
  split
  · exact ⟨hG, rfl⟩
  · exact ⟨hG.wo id, woL_length _ _⟩
end Go.Proofs.YtacdbfaoeioflaaGreatDoor

namespace Go.Proofs.YtacdbfaoeioflaaGreatDoor
open Go.RowKit Go.PlainAid

/-- Nothing is ordered, and there is power. -/
def Live (s : St) : Prop := s.gone = false ∧ s.left = 0
theorem Live.count {s : St} (h : Live s) : Live (count s) ∧ countE s = 0 := by
  unfold Go.Proofs.YtacdbfaoeioflaaGreatDoor.count countE
  rw [if_pos h.2, if_neg (by rw [h.2]; omega)]
  exact ⟨h, rfl⟩
theorem Live.write {s : St} (h : Live s) {i : Nat} (hi : i < s.is.length) {t : ByteArray} (ht : t.size = 32) : writeE s i t = 0 ∧ Live (writeS s i t) := by
  obtain ⟨e1, e2⟩ := writeE_in h.1 hi ht
  rw [e1, e2]
  have h' : Live (add s i t) := h
  exact ⟨h.count.2, h'.count.1⟩
theorem Live.sync {s : St} (h : Live s) : syncE s = 0 ∧ Live (syncS s) := by
  unfold syncE syncS
  rw [h.1, h.2]
  refine ⟨by simp, ?_⟩
  rw [if_neg (by simp), if_neg (by omega)]
  have := h.count.1
  exact ⟨this.1, this.2⟩
theorem Live.wr1 {s : St} (h : Live s) {i : Nat} (hi : i < s.is.length) {t : ByteArray} (ht : t.size = 32) : wr1E s i t = 0 ∧ Live (wr1S s i t) := by
  obtain ⟨h1, h2⟩ := h.write hi ht
  obtain ⟨h3, h4⟩ := h2.sync
  unfold wr1E wr1S
  rw [if_neg (by omega), if_neg (by omega)]
  exact ⟨h3, h4⟩
theorem wr1_len (s : St) (i : Nat) (t : ByteArray) : (wr1S s i t).is.length = s.is.length := by
  unfold wr1S; split
  · exact write_len _ _ _
  · rw [sync_len, write_len]
theorem Live.wr {s : St} (h : Live s) {i : Nat} (hi : i < s.is.length) {b : Bk} (hb : refE b 1 = 0) : wrE s i b = 0 ∧ Live (wrS s i b) := by
  have hz := (refE_zero.1 hb).2
  obtain ⟨h1, h2⟩ := h.wr1 hi (recB_size hz 0)
  obtain ⟨h3, h4⟩ := h2.wr1 (by rw [wr1_len]; exact hi) (recB_size hz 1)
  unfold wrE wrS
  rw [if_neg (by omega), if_neg (by omega)]
  exact ⟨h3, h4⟩
theorem Live.put {s : St} (h : Live s) {L : Lay} (hL : L.length = s.is.length) (b : Bk) : putE L s b = preE L false b ∧ Live (putS L s b) := by
  unfold putE putS
  rw [h.1]
  by_cases hp : preE L false b ≠ 0
  · rw [if_pos hp, if_pos hp]; exact ⟨rfl, h⟩
  · obtain ⟨h1, -, -, h4⟩ := preE_zero (by omega : preE L false b = 0)
    rw [if_neg hp, if_neg hp]
    obtain ⟨h5, h6⟩ := h.wr (i := low L) (by omega) h1
    exact ⟨by omega, h6⟩
theorem Live.dk {s : St} {n c : Nat} (hR : Rest s n c) (h : Live s) (id : Int) : ∀ k, k ≤ n → (Go.Proofs.YtacdbfaoeioflaaGreatDoor.dk (readB s) id s k).1 = 0 ∧ Live (Go.Proofs.YtacdbfaoeioflaaGreatDoor.dk (readB s) id s k).2.1 := by
  intro k
  induction k with
  | zero => intro _; exact ⟨rfl, h⟩
  | succ k ih =>
    intro hk
    obtain ⟨h1, h2⟩ := ih (by omega)
    have hD := hR.dk h.1 id k (by omega)
    unfold Go.Proofs.YtacdbfaoeioflaaGreatDoor.dk
    rw [if_neg (by omega)]
    split
    · exact ⟨h1, h2⟩
    · split
      · have hT : (readB s k).length = 32 := readB_length hR.good (by rw [hR.len]; omega)
        exact h2.write (by rw [hD.len]; omega) (unm_size hT)
      · exact ⟨h1, h2⟩
/-- Drop, while no power goes. -/
theorem Live.drop {s : St} {n c : Nat} (hR : Rest s n c) (h : Live s) (id : Int) :
    (((∃ j b, j < n ∧ parse (str (readB s j)) = some b ∧ b.id = id) → dropE s id = 0) ∧ ((¬ ∃ j b, j < n ∧ parse (str (readB s j)) = some b ∧ b.id = id) → dropE s id = 3)) ∧ Live (dropS s id) ∧
    ∀ j, j < n → readB (dropS s id) j = if (∃ b, parse (str (readB s j)) = some b ∧ b.id = id) then 0 :: (readB s j).drop 1 else readB s j := by
  obtain ⟨h1, h2⟩ := Live.dk hR h id n (Nat.le_refl _)
  have hD := hR.dk h.1 id n (Nat.le_refl _)
  have hs := hD.some_ h1
  have ha := hD.at_ h1
  have hno := hD.none_ h1
  have hg := hD.good
  unfold dropE dropS
  rw [h.1, hR.len]
  generalize Go.Proofs.YtacdbfaoeioflaaGreatDoor.dk (readB s) id s n = r at h1 h2 hs ha hno hg ⊢
  have hne : ¬ r.1 ≠ 0 := by omega
  simp only [Bool.false_eq_true, if_false, if_neg hne]
  by_cases hf : r.2.2 = false
  · simp only [if_pos hf]
    rw [hno hf]
    refine ⟨⟨fun e => (by rw [hs.2 e] at hf; cases hf), fun _ => by trivial⟩, h, fun j hj => ?_⟩
    rw [if_neg]
    rintro ⟨b, hb⟩
    rw [hs.2 ⟨j, b, hj, hb⟩] at hf; cases hf
  · simp only [if_neg hf]
    obtain ⟨h3, h4⟩ := h2.sync
    refine ⟨⟨fun _ => h3, fun e => absurd (hs.1 (by simpa using hf)) e⟩, h4, fun j hj => ?_⟩
    rw [(read_sync hg h3).1 j, ha j]
    by_cases hc : ∃ b, parse (str (readB s j)) = some b ∧ b.id = id
    · rw [if_pos ⟨hj, hc⟩, if_pos hc]
    · rw [if_neg (fun e => hc e.2), if_neg hc]

/-! ### a new plate -/
theorem fresh_rest (n : Int) : Rest (fresh n) (size0 n) 0 := ⟨Good.fresh n, rfl, by simp [fresh], Nat.le_refl _⟩
theorem fresh_live (n : Int) : Live (fresh n) := ⟨rfl, rfl⟩
theorem fresh_fit (n : Int) : Fit (readB (fresh n)) (List.replicate (size0 n) none) := by
  refine Fit.zero (size0_in n).2 fun i hi => ?_
  rw [readB_rest rfl]
  simp [fresh, List.getD_eq_getElem?_getD, hi]
theorem fresh_open (n : Int) : scan (readB (fresh n)) (size0 n) (size0 n) = List.replicate (size0 n) none ∧ odds (readB (fresh n)) (size0 n) = [] := by
  have := (fresh_fit n).opens
  rwa [List.length_replicate] at this
theorem replicate_get (n : Nat) (id : Int) : getL (List.replicate n none) id = none := getL_of_none fun _ _ h => (at_replicate h).elim

/-! ### what lies on the plate, from one call to the next -/
/-- At rest, with power, nothing ordered, and the sectors are as the layout says. -/
structure Sound (s : St) (L : Lay) (n k : Nat) : Prop where
  rest : Rest s n k
  live : Live s
  fit : Fit (readB s) L
  len : L.length = n
theorem Sound.fresh (n : Int) : Sound (fresh n) (List.replicate (size0 n) none) (size0 n) 0 := ⟨fresh_rest n, fresh_live n, fresh_fit n, by simp⟩
theorem Sound.opens {s : St} {L : Lay} {n k : Nat} (h : Sound s L n k) : scan (readB s) n n = L ∧ odds (readB s) n = [] := by
  have := h.fit.opens
  rwa [h.len] at this
theorem Sound.put {s : St} {L : Lay} {n k : Nat} (h : Sound s L n k) (b : Bk) : Sound (putS L s b) (putY L s b) n (k + 4) := by
  have hL : L.length = s.is.length := by rw [h.len, h.rest.len]
  obtain ⟨h1, h2⟩ := h.live.put hL b
  obtain ⟨g1, g2⟩ := putY_good h.fit.good s b
  refine ⟨h.rest.put h.len b, h2, ?_, by rw [g2]; exact h.len⟩
  by_cases hp : putE L s b = 0
  · obtain ⟨e1, e2, e3, e4⟩ := putY_zero hp
    obtain ⟨r1, r2, r3, r4⟩ := preE_zero e2
    obtain ⟨q1, q2, -⟩ := h.rest.wr_out h.live.1 (i := low L) (by rw [← h.len]; exact r4) r1
    rw [e1, e4]
    exact h.fit.put (low_free r4) (fun j _ hj => q1 j hj) r1 r3 (q2 e3).1
  · rw [putY_other hp]
    have hpre : preE L s.gone b ≠ 0 := by rw [h.live.1, ← h1]; exact hp
    have : putS L s b = s := if_pos hpre
    rw [this]
    exact h.fit
theorem Sound.drop {s : St} {L : Lay} {n k : Nat} (h : Sound s L n k) (id : Int) : dropE s id = (if (getL L id).isSome then 0 else 3) ∧ Sound (dropS s id) (woL L id) n (k + n + 1) ∧ dropY L s id = woL L id := by
  obtain ⟨h1, h2, h3⟩ := h.live.drop h.rest id
  have hh := h.fit.has id
  rw [h.len] at hh
  have he : dropE s id = if (getL L id).isSome then 0 else 3 := by
    by_cases hs : (getL L id).isSome = true
    · rw [if_pos hs]; exact h1.1 (hh.1 hs)
    · rw [if_neg hs]; exact h1.2 (fun e => hs (hh.2 e))
  refine ⟨he, ⟨h.rest.drop id, h2, ?_, by rw [woL_length]; exact h.len⟩, ?_⟩
  · refine h.fit.drop id (fun j hj hno => ?_) (fun j b hj hp hid => ?_)
    · rw [h3 j (by rw [← h.len]; exact hj), if_neg]
      rintro ⟨b, hb, e⟩
      exact hno b hb e
    · rw [h3 j (by rw [← h.len]; exact hj), if_pos ⟨b, hp, hid⟩, mrk_cons]
      decide
  · unfold dropY
    rw [he]
    cases hg : getL L id with
    | none => simp [woL_self hg]
    | some b => simp
/-- Power goes, and is there again, where nothing waits. -/
theorem Sound.again {s : St} {L : Lay} {n k : Nat} (h : Sound s L n k) (keep : Nat) : Sound (power (crash s keep)) L n k ∧ ∀ j, readB (power (crash s keep)) j = readB s j := by
  have his : (crash s keep).is = s.is := by
    unfold crash
    rw [if_neg (by rw [h.live.1]; simp)]
    show done _ s.wait s.is s.wait.length = _
    rw [h.rest.wait]; rfl
  have hw : (crash s keep).wait = [] := (Still.crash s keep (still_of h.rest.wait)).1
  have hr : ∀ j, readB (power (crash s keep)) j = readB s j := fun j => by
    rw [readB_rest (s := power (crash s keep)) hw, readB_rest h.rest.wait]
    show (crash s keep).is.getD j [] = _
    rw [his]
  refine ⟨⟨⟨(h.rest.good.crash keep).power, hw, by show (crash s keep).is.length = n; rw [his]; exact h.rest.len, by show (crash s keep).n ≤ k; rw [crash_n]; exact h.rest.few⟩, ⟨rfl, rfl⟩, h.fit.same fun j _ => hr j, h.len⟩, hr⟩
end Go.Proofs.YtacdbfaoeioflaaGreatDoor
