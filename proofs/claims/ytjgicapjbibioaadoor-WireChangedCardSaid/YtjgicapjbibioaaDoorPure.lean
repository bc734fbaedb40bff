/-
  Plain facts on a message's bytes: what is encoded is decoded; what is decoded has just these bytes.
-/
import Derived.Test.YtjgicapjbibioaaDoorDec4
namespace Go.Proofs.YtjgicapjbibioaaDoor
open Go.RowKit Go.Lib Go.PlainAid

theorem M.pre_byt (m : M) : ∀ i, Byt (m.pre i)
  | 0 => Byt.nil
  | i + 1 => (m.pre_byt i).app (byt_leb _ _)
theorem M.pre_pos (m : M) : ∀ i, i ≤ 7 → (m.pre i).length = pos i
  | 0, _ => rfl
  | i + 1, h => by
    rw [M.pre, List.length_append, m.pre_pos i (by omega), leb_len _ _ (wid_le i), pos_succ i (by omega)]
/-- What stands behind the first i numbers. -/
theorem M.pre_split (m : M) (i : Nat) : ∀ n, i ≤ n → ∃ rest, Byt rest ∧ m.pre n = m.pre i ++ rest
  | 0, h => ⟨[], Byt.nil, by obtain rfl : i = 0 := by omega
                             simp⟩
  | n + 1, h => by
    by_cases e : i = n + 1
    · subst e; exact ⟨[], Byt.nil, by simp⟩
    · obtain ⟨r, hr, he⟩ := m.pre_split i n (by omega)
      exact ⟨r ++ leb (m.fld n) (wid n).toNat, hr.app (byt_leb _ _), by rw [M.pre, he, List.append_assoc]⟩
theorem M.bytes_at (m : M) (i : Nat) (hi : i < 7) : ∃ rest, Byt rest ∧ m.bytes = m.pre i ++ (leb (m.fld i) (wid i).toNat ++ rest) := by
  obtain ⟨r, hr, he⟩ := m.pre_split (i + 1) 7 (by omega)
  refine ⟨r ++ (leb (m.data.size : Int) 2 ++ nums m.data), hr.app ((byt_leb _ _).app (byt_nums _)), ?_⟩
  unfold M.bytes
  rw [he, M.pre]
  simp [List.append_assoc]
theorem M.bytes_len (m : M) : m.bytes.length = 25 + m.data.size := by
  unfold M.bytes
  rw [List.length_append, List.length_append, m.pre_pos 7 (by omega), leb_len _ _ (by omega), nums_length]
  rfl
theorem drop_pre (a b : List Int) (n : Nat) (h : a.length = n) : (a ++ b).drop n = b := by
  subst h; simp
theorem M.numV_back (m : M) (i : Nat) (hi : i < 7) (hok : m.okN i) : numV (strOfNums m.bytes) i = m.fld i := by
  obtain ⟨r, hr, he⟩ := m.bytes_at i hi
  unfold numV
  rw [extract_rest, he, drop_pre _ _ _ (m.pre_pos i (by omega))]
  exact lev_leb _ _ r (m.fits i hi hok) hr
theorem M.tL_back (m : M) (h : m.data.size ≤ 1024) : tL (strOfNums m.bytes) = (m.data.size : Int) := by
  unfold tL M.bytes
  rw [extract_rest, List.append_assoc, drop_pre _ _ 23 (m.pre_pos 7 (by omega))]
  exact lev_leb _ 2 _ (by unfold Fits; omega) (byt_nums _)
theorem M.textV_back (m : M) (h : m.data.size ≤ 1024) : textV (strOfNums m.bytes) = m.data := by
  unfold textV
  rw [m.tL_back h, extract_str]
  have e1 : m.bytes.drop 25 = nums m.data := by
    unfold M.bytes
    exact drop_pre _ _ _ (by rw [List.length_append, m.pre_pos 7 (by omega), leb_len _ _ (by omega)]; rfl)
  rw [e1, List.take_of_length_le (by rw [nums_length]; omega), str_nums]
/-- What is encoded is decoded. -/
theorem M.back (m : M) (h : m.chk = 0) : decE (strOfNums m.bytes) = [] ∧ msgOf (strOfNums m.bytes) = m := by
  obtain ⟨hok, hds⟩ := M.ok_all h
  have hsz : (strOfNums m.bytes).size = 25 + m.data.size := by rw [strOfNums_size, m.bytes_len]
  have hm : msgOf (strOfNums m.bytes) = m := by
    unfold msgOf
    rw [m.numV_back 0 (by omega) (hok 0 (by omega)), m.numV_back 1 (by omega) (hok 1 (by omega)), m.numV_back 2 (by omega) (hok 2 (by omega)), m.numV_back 3 (by omega) (hok 3 (by omega)), m.numV_back 4 (by omega) (hok 4 (by omega)), m.numV_back 5 (by omega) (hok 5 (by omega)), m.numV_back 6 (by omega) (hok 6 (by omega)), m.textV_back hds]
    rfl
  refine ⟨decE_none fun j hj => ?_, hm⟩
  by_cases h7 : j < 7
  · rw [stepE_num h7]
    unfold numE
    have hp : pos (j + 1) ≤ 23 := by
      match j, h7 with
      | 0, _ => decide
      | 1, _ => decide
      | 2, _ => decide
      | 3, _ => decide
      | 4, _ => decide
      | 5, _ => decide
      | 6, _ => decide
    have hv := m.numV_back j h7 (hok j h7)
    have hf := m.fits j h7 (hok j h7)
    have hle : m.fld j ≤ 9223372036854775807 := by unfold Fits at hf; omega
    rw [if_neg (by omega), if_neg (by omega)]
  · by_cases e7 : j = 7
    · subst e7
      rw [stepE_7]
      unfold textE
      rw [m.tL_back hds, if_neg (by omega), if_neg (by omega), if_neg (by omega)]
    · by_cases e8 : j = 8
      · subst e8
        rw [stepE_8]
        unfold endE
        rw [m.tL_back hds, if_pos (by omega)]
      · obtain rfl : j = 9 := by omega
        rw [stepE_9, hm, h]; rfl

theorem nums_drop (t : ByteArray) (a : Nat) : nums (t.extract a t.size) = (nums t).drop a := by
  have h := extract_rest (nums t) a
  rw [str_nums] at h
  rw [h]
  unfold nums strOfNums
  simp only [List.map_map, List.map_drop]
  congr 1
  apply List.map_congr_left
  intro c _
  simp
theorem nums_extract (t : ByteArray) (a e : Nat) : nums (t.extract a e) = ((nums t).drop a).take (e - a) := by
  have h := extract_str (nums t) a e
  rw [str_nums] at h
  rw [h]
  unfold nums strOfNums
  simp only [List.map_map, List.map_drop, List.map_take]
  congr 2
  apply List.map_congr_left
  intro c _
  simp
theorem nums_get (s : ByteArray) (i : Nat) (h : i < s.size) : (nums s)[i]? = some (bt s i) := by
  have hb := byt_nums s
  have hl : i < (nums s).length := by rw [nums_length]; exact h
  have := bt_str (nums s) hb i hl
  rw [str_nums] at this
  rw [this, List.getElem?_eq_getElem hl]
theorem take_bt (s : ByteArray) (k : Nat) (h : k ≤ s.size) : (nums s).take k = (List.range k).map (bt s) := by
  apply List.ext_getElem?
  intro j
  rw [List.getElem?_take, List.getElem?_map]
  by_cases hj : j < k
  · rw [if_pos hj, nums_get s j (by omega), List.getElem?_range hj]; rfl
  · rw [if_neg hj, List.getElem?_eq_none (by simp; omega)]; rfl
theorem leb_lev1 (s : ByteArray) : leb (lev s 1) 1 = (List.range 1).map (bt s) := by
  have g0 := bt_nonneg s 0
  have l0 := bt_le s 0
  simp only [leb, List.take, List.range, List.range.loop, List.map, lev]
  congr 1
  omega
theorem leb_lev2 (s : ByteArray) : leb (lev s 2) 2 = (List.range 2).map (bt s) := by
  have g0 := bt_nonneg s 0
  have l0 := bt_le s 0
  have g1 := bt_nonneg s 1
  have l1 := bt_le s 1
  simp only [leb, List.take, List.range, List.range.loop, List.map, lev]
  congr 1
  · omega
  · congr 1
    omega
theorem leb_lev8 (s : ByteArray) : leb (lev s 8) 8 = (List.range 8).map (bt s) := by
  have g0 := bt_nonneg s 0
  have l0 := bt_le s 0
  have g1 := bt_nonneg s 1
  have l1 := bt_le s 1
  have g2 := bt_nonneg s 2
  have l2 := bt_le s 2
  have g3 := bt_nonneg s 3
  have l3 := bt_le s 3
  have g4 := bt_nonneg s 4
  have l4 := bt_le s 4
  have g5 := bt_nonneg s 5
  have l5 := bt_le s 5
  have g6 := bt_nonneg s 6
  have l6 := bt_le s 6
  have g7 := bt_nonneg s 7
  have l7 := bt_le s 7
  simp only [leb, List.take, List.range, List.range.loop, List.map, lev]
  refine List.cons_eq_cons.2 ⟨by omega, List.cons_eq_cons.2 ⟨by omega, List.cons_eq_cons.2 ⟨by omega, List.cons_eq_cons.2 ⟨by omega, List.cons_eq_cons.2 ⟨by omega, List.cons_eq_cons.2 ⟨by omega, List.cons_eq_cons.2 ⟨by omega, List.cons_eq_cons.2 ⟨by omega, rfl⟩⟩⟩⟩⟩⟩⟩⟩
theorem leb_lev (s : ByteArray) (i : Nat) (h : (wid i).toNat ≤ s.size) : leb (lev s (wid i).toNat) (wid i).toNat = (nums s).take (wid i).toNat := by
  rw [take_bt s _ h]
  match i with
  | 0 => exact leb_lev1 s
  | 1 => exact leb_lev1 s
  | 2 => exact leb_lev1 s
  | 3 => exact leb_lev8 s
  | 4 => exact leb_lev8 s
  | _ + 5 => exact leb_lev2 s
theorem take_more (l : List Int) (a b : Nat) : l.take a ++ (l.drop a).take b = l.take (a + b) := by
  rw [List.take_add]
theorem M.fld_numV (t : ByteArray) (i : Nat) (h : i < 7) : (msgOf t).fld i = numV t i := by
  match i, h with
  | 0, _ => rfl
  | 1, _ => rfl
  | 2, _ => rfl
  | 3, _ => rfl
  | 4, _ => rfl
  | 5, _ => rfl
  | 6, _ => rfl
/-- What is decoded has just these bytes. -/
theorem bytes_just (t : ByteArray) (h : decE t = []) : strOfNums (msgOf t).bytes = t ∧ (msgOf t).chk = 0 := by
  have ha := decE_all h
  have h7 := ha 7 (by omega)
  have h8 := ha 8 (by omega)
  have h9 := ha 9 (by omega)
  rw [stepE_7] at h7
  rw [stepE_8] at h8
  rw [stepE_9] at h9
  obtain ⟨z1, z2, z3, z4⟩ := textE_ok h7
  have hen : (t.size : Int) = 25 + tL t := by
    unfold endE at h8
    split at h8
    · assumption
    · cases h8
  have hck : (msgOf t).chk = 0 := Classical.byContradiction fun hc => by rw [errOf_bad hc] at h9; cases h9
  refine ⟨?_, hck⟩
  have hpre : ∀ i, i ≤ 7 → (msgOf t).pre i = (nums t).take (pos i) := by
    intro i
    induction i with
    | zero => intro _; simp [M.pre, pos]
    | succ i ih =>
      intro hi
      have hn := ha i (by omega)
      rw [stepE_num (by omega)] at hn
      have hp := (numE_ok hn).1
      have hps := pos_succ i (by omega)
      rw [M.pre, ih (by omega), M.fld_numV t i (by omega)]
      unfold numV
      rw [leb_lev _ i (by rw [ByteArray.size_extract]; omega), nums_drop, take_more, hps]
  have hb : (msgOf t).bytes = nums t := by
    unfold M.bytes
    rw [hpre 7 (by omega)]
    have hd : (msgOf t).data = textV t := rfl
    have hds : ((textV t).size : Int) = tL t := by
      unfold textV
      rw [ByteArray.size_extract]; omega
    rw [hd, hds]
    have e2 : leb (tL t) 2 = ((nums t).drop 23).take 2 := by
      have := leb_lev (t.extract 23 t.size) 5 (by rw [ByteArray.size_extract]; show 2 ≤ _; omega)
      rw [nums_drop] at this
      exact this
    have e3 : nums (textV t) = (nums t).drop 25 := by
      unfold textV
      rw [nums_extract, List.take_of_length_le]
      rw [List.length_drop, nums_length]; omega
    rw [e2, e3]
    show (nums t).take 23 ++ ((nums t).drop 23).take 2 ++ (nums t).drop 25 = nums t
    rw [take_more, List.take_append_drop]
  rw [hb, str_nums]
end Go.Proofs.YtjgicapjbibioaaDoor
