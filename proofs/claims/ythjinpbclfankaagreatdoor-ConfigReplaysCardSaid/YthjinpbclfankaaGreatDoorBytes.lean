/-
  Plain lemmas on bytes as numbers: what leb writes lev reads; parts of a text made of numbers.
-/
import Derived.Test.YthjinpbclfankaaGreatDoorRtext
namespace Go.Proofs.YthjinpbclfankaaGreatDoor
open Go.RowKit Go.Extern.Stop Go.Stop Go.Extern Go.PlainAid Go.Lib

def Byt (bs : List Int) : Prop := ∀ x ∈ bs, 0 ≤ x ∧ x ≤ 255
theorem Byt.nil : Byt [] := fun _ h => by cases h
theorem Byt.app {a b : List Int} (ha : Byt a) (hb : Byt b) : Byt (a ++ b) := fun x hx => by
  rcases List.mem_append.1 hx with h | h
  · exact ha x h
  · exact hb x h
theorem Byt.drop {a : List Int} (ha : Byt a) (n : Nat) : Byt (a.drop n) := fun x hx => ha x (List.mem_of_mem_drop hx)
theorem Byt.take {a : List Int} (ha : Byt a) (n : Nat) : Byt (a.take n) := fun x hx => ha x (List.mem_of_mem_take hx)
theorem byt_leb (n : Int) (k : Nat) : Byt (leb n k) := by
  intro x hx
  have hx' := List.mem_of_mem_take hx
  simp only [List.mem_cons, List.not_mem_nil, or_false] at hx'
  omega
theorem byt_nums (s : ByteArray) : Byt (nums s) := by
  intro x hx
  obtain ⟨c, _, rfl⟩ := List.mem_map.1 hx
  have := c.toNat_lt
  omega

theorem leb_len (n : Int) (k : Nat) (hk : k ≤ 8) : (leb n k).length = k := by simp [leb]; omega
theorem not_fits3 (n : Int) : ¬ Fits n 3 := by unfold Fits; omega

theorem bt_str (bs : List Int) (h : Byt bs) (i : Nat) (hi : i < bs.length) : bt (strOfNums bs) i = bs[i] := by
  unfold bt
  have hs : i < (strOfNums bs).size := by rw [strOfNums_size]; exact hi
  rw [dif_pos hs]
  have e : (strOfNums bs)[i]'hs = UInt8.ofNat (bs[i]).toNat := by
    have h2 : (strOfNums bs).data[i]? = some (UInt8.ofNat (bs[i]).toNat) := by simp [strOfNums, hi]
    exact (Array.getElem?_eq_some_iff.1 h2).2
  rw [e]
  have := h bs[i] (List.getElem_mem hi)
  simp [UInt8.toNat_ofNat']
  omega

theorem extract_str (bs : List Int) (a e : Nat) : (strOfNums bs).extract a e = strOfNums ((bs.drop a).take (e - a)) := by
  unfold strOfNums
  rw [ByteArray.extract_mk]
  simp [List.map_take, List.map_drop]
theorem extract_rest (bs : List Int) (a : Nat) : (strOfNums bs).extract a (strOfNums bs).size = strOfNums (bs.drop a) := by
  rw [extract_str, strOfNums_size]
  congr 1
  exact List.take_of_length_le (by simp)

theorem str_nums (s : ByteArray) : strOfNums (nums s) = s := by
  unfold strOfNums nums
  have : (List.map (fun n => UInt8.ofNat n.toNat) (List.map (fun c : UInt8 => (c.toNat : Int)) s.data.toList)) = s.data.toList := by
    rw [List.map_map]
    conv => rhs; rw [← List.map_id s.data.toList]
    apply List.map_congr_left
    intro c _
    simp
  rw [this]

theorem lev_leb (n k : Int) (post : List Int) (hf : Fits n k) (hp : Byt post) : lev (strOfNums (leb n k.toNat ++ post)) k.toNat = n := by
  obtain ⟨h0, hf⟩ := hf
  have hb : Byt (leb n k.toNat ++ post) := (byt_leb n k.toNat).app hp
  rcases hf with ⟨rfl, h⟩ | ⟨rfl, h⟩ | ⟨rfl, h⟩ | ⟨rfl, h⟩
  · have b0 := bt_str _ hb 0 (by simp [leb])
    simp only [Int.reduceToNat, leb, List.take, List.cons_append, List.getElem_cons_zero, List.nil_append] at b0
    simp only [Int.reduceToNat, leb, List.take, List.cons_append, List.nil_append, lev, b0]
    omega
  · have b0 := bt_str _ hb 0 (by simp [leb])
    have b1 := bt_str _ hb 1 (by simp [leb])
    simp only [Int.reduceToNat, leb, List.take, List.cons_append, List.getElem_cons_zero, List.getElem_cons_succ, List.nil_append] at b0 b1
    simp only [Int.reduceToNat, leb, List.take, List.cons_append, List.nil_append, lev, b0, b1]
    omega
  · have b0 := bt_str _ hb 0 (by simp [leb])
    have b1 := bt_str _ hb 1 (by simp [leb])
    have b2 := bt_str _ hb 2 (by simp [leb])
    have b3 := bt_str _ hb 3 (by simp [leb])
    simp only [Int.reduceToNat, leb, List.take, List.cons_append, List.getElem_cons_zero, List.getElem_cons_succ, List.nil_append] at b0 b1 b2 b3
    simp only [Int.reduceToNat, leb, List.take, List.cons_append, List.nil_append, lev, b0, b1, b2, b3]
    omega
  · have b0 := bt_str _ hb 0 (by simp [leb])
    have b1 := bt_str _ hb 1 (by simp [leb])
    have b2 := bt_str _ hb 2 (by simp [leb])
    have b3 := bt_str _ hb 3 (by simp [leb])
    have b4 := bt_str _ hb 4 (by simp [leb])
    have b5 := bt_str _ hb 5 (by simp [leb])
    have b6 := bt_str _ hb 6 (by simp [leb])
    have b7 := bt_str _ hb 7 (by simp [leb])
    simp only [Int.reduceToNat, leb, List.take, List.cons_append, List.getElem_cons_zero, List.getElem_cons_succ, List.nil_append] at b0 b1 b2 b3 b4 b5 b6 b7
    simp only [Int.reduceToNat, leb, List.take, List.cons_append, List.nil_append, lev, b0, b1, b2, b3, b4, b5, b6, b7]
    omega
end Go.Proofs.YthjinpbclfankaaGreatDoor
