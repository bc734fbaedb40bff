/-
  Encode and Decode (package wire, and the document's own), by one contract each; two messages compared.
-/
import Derived.Test.YtjgicapjbibioaaDoorPure
import Derived.Test.YtjgicapjbibioaaDoorRdec2
import Derived.Laws.StructEq
namespace Go.Proofs.YtjgicapjbibioaaDoor
open Go.RowKit Go.Lib Go.PlainAid

/-- A message's sealed bytes, or none. -/
def encS (m : M) : ByteArray := if m.chk = 0 then strOfNums m.bytes ++ four (sumOf (strOfNums m.bytes)) else ⟨#[]⟩
/-- What bytes are decoded as: the message; the errors. -/
def decM (s : ByteArray) : M := if (openOf s).2 = true then outM (openOf s).1 else M.zero
def decL (s : ByteArray) : List Int := if (openOf s).2 = true then outE (openOf s).1 else [20]
theorem encS_ok {m : M} (h : m.chk = 0) : encS m = strOfNums m.bytes ++ four (sumOf (strOfNums m.bytes)) := if_pos h
theorem encS_bad {m : M} (h : m.chk ≠ 0) : encS m = ⟨#[]⟩ := if_neg h
theorem encS_size {m : M} (h : m.chk = 0) : (encS m).size = 29 + m.data.size := by
  rw [encS_ok h, ByteArray.size_append, four_size, strOfNums_size, m.bytes_len]; omega
theorem dec_enc {m : M} (h : m.chk = 0) : decM (encS m) = m ∧ decL (encS m) = [] := by
  obtain ⟨h1, h2⟩ := m.back h
  unfold decM decL
  rw [encS_ok h, openOf_yes]
  simp only [if_pos]
  unfold outM outE
  rw [if_pos h1, if_pos h1]
  exact ⟨h2, rfl⟩
theorem openOf_form {s : ByteArray} (h : (openOf s).2 = true) : (openOf s).1 ++ four (sumOf (openOf s).1) = s := by
  unfold openOf at h ⊢
  split at h
  · rename_i hc
    rw [if_pos hc]
    show s.extract 0 (s.size - 4) ++ _ = s
    rw [← hc.2]; exact parts s _
  · cases h
theorem dec_just {s : ByteArray} (h : decL s = []) : encS (decM s) = s ∧ (decM s).chk = 0 := by
  unfold decL at h
  split at h
  · rename_i ho
    have hE : decE (openOf s).1 = [] := Classical.byContradiction fun hc => by
      unfold outE at h; rw [if_neg hc] at h; cases h
    obtain ⟨h1, h2⟩ := bytes_just _ hE
    have hM : decM s = msgOf (openOf s).1 := by unfold decM outM; rw [if_pos ho, if_pos hE]
    refine ⟨?_, by rw [hM]; exact h2⟩
    rw [hM, encS_ok h2, h1]
    exact openOf_form ho
  · cases h
theorem decM_bad {s : ByteArray} (h : decL s ≠ []) : decM s = M.zero := by
  unfold decM
  unfold decL at h
  split
  · rename_i ho
    rw [if_pos ho] at h
    unfold outE at h
    unfold outM
    by_cases hE : decE (openOf s).1 = []
    · rw [if_pos hE] at h; exact absurd rfl h
    · rw [if_neg hE]
  · rfl
theorem zero_chk : M.zero.chk = 0 := by decide
theorem decL_len (s : ByteArray) : (decL s).length ≤ 1000 := by
  unfold decL
  split
  · unfold outE
    split
    · decide
    · have : ∀ t, (decE t).length ≤ 2 := fun t => by
        by_cases h : decE t = []
        · rw [h]; decide
        · obtain ⟨k, hk⟩ : ∃ k, decE t = stepE t k := Classical.byContradiction fun hc => by
            apply h
            have hall : ∀ j, j < 10 → stepE t j = [] := by
              intro j
              induction j using Nat.strongRecOn with
              | ind j ih =>
                intro hj
                exact Classical.byContradiction fun hne => hc ⟨j, decE_at hj hne (fun i hi => ih i hi (by omega))⟩
            exact decE_none hall
          rw [hk]
          unfold stepE
          split
          · unfold numE; split
            · decide
            · split <;> decide
          · split
            · unfold textE; split
              · decide
              · split
                · decide
                · split <;> decide
            · split
              · unfold endE; split <;> decide
              · unfold errOf; split
                · decide
                · simp
      have := this (openOf s).1
      simp; omega
  · decide
theorem errOf_len (e : Int) : (errOf e).length ≤ 1000 := by
  unfold errOf; split
  · decide
  · simp
theorem errOf_head (e : Int) : (errOf e).headD 0 = e := by
  unfold errOf; split
  · rename_i h; rw [h]; rfl
  · rfl

theorem encode_any (m : M) (w : World) (hT : Tab w) :
    Calls Tryd.prog 7 #[m.val] w fun e w' => ∃ v, e = .returned (.tuple #[.string (encS m), v]) ∧ Chained w' v (errOf m.chk) ∧ Below w.heap.size w w' := by
  by_cases h : m.chk = 0
  · rw [encS_ok h, h]
    refine (encode_ok m w hT h).mono ?_
    rintro e w' ⟨rfl, hb⟩
    exact ⟨_, rfl, rfl, hb⟩
  · rw [encS_bad h, errOf_bad h]
    exact encode_bad m w h
theorem rencode_any (m : M) (w : World) :
    Calls Tryd.prog 8 #[m.val] w fun e w' => e = .returned (.tuple #[.string (encS m), .int .i64 m.chk]) ∧ Below w.heap.size w w' := by
  by_cases h : m.chk = 0
  · rw [encS_ok h, h]; exact rencode_ok m w h
  · rw [encS_bad h]; exact rencode_bad m w h
theorem decode_any (s : ByteArray) (w : World) (hT : Tab w) (hg : ErrType w) (hs : s.size ≤ 1000000) :
    Calls Tryd.prog 12 #[.string s] w fun e w' => ∃ v, e = .returned (.tuple #[(decM s).val, v]) ∧ Chained w' v (decL s) ∧ Below w.heap.size w w' := by
  unfold decM decL
  by_cases h : (openOf s).2 = true
  · rw [if_pos h, if_pos h]
    exact decode_yes s (openOf s).1 w hT hg hs (by rw [← h])
  · rw [if_neg h, if_neg h]
    exact decode_no s w hT hs (by simpa using h)
theorem rdecode_any (s : ByteArray) (w : World) (hs : s.size ≤ 1000000) :
    Calls Tryd.prog 13 #[.string s] w fun e w' => ∃ A k c, e = .returned (.tuple #[(decM s).val, .slice A k c]) ∧ RF w' A k c (decL s) ∧ Below w.heap.size w w' := by
  unfold decM decL
  by_cases h : (openOf s).2 = true
  · rw [if_pos h, if_pos h]
    exact rdecode_yes s (openOf s).1 w hs (by rw [← h])
  · rw [if_neg h, if_neg h]
    exact rdecode_no s w hs (by simpa using h)

theorem msg_same (m : M) (w : World) : (binOp .eql 23 m.val m.val).run Tryd.prog w = .ok (.bool true) w := by
  have hg : Tryd.prog.stoodInHeld 23 = false := by kernel_rfl
  have hf : Tryd.prog.underlying 23 = some (.struct (Tryd.prog.fieldsOf 23)) := by kernel_rfl
  rw [run_eql_struct, run_equalIn_struct w 9999 23 _ _ hf hg]
  simp [go_sem, Tryd.underlying23, Tryd.underlying3, Tryd.underlying9]
theorem msg_sameN (m : M) (w : World) : (binOp .neq 23 m.val m.val).run Tryd.prog w = .ok (.bool false) w := by
  have hg : Tryd.prog.stoodInHeld 23 = false := by kernel_rfl
  have hf : Tryd.prog.underlying 23 = some (.struct (Tryd.prog.fieldsOf 23)) := by kernel_rfl
  rw [run_neq_struct, run_equalIn_struct w 9999 23 _ _ hf hg]
  simp [go_sem, Tryd.underlying23, Tryd.underlying3, Tryd.underlying9]
theorem msg_other (m n : M) (w : World) (h : m ≠ n) : (binOp .eql 23 m.val n.val).run Tryd.prog w = .ok (.bool false) w := by
  have hg : Tryd.prog.stoodInHeld 23 = false := by kernel_rfl
  have hf : Tryd.prog.underlying 23 = some (.struct (Tryd.prog.fieldsOf 23)) := by kernel_rfl
  rw [run_eql_struct, run_equalIn_struct w 9999 23 _ _ hf hg]
  obtain ⟨a0, a1, a2, a3, a4, a5, a6, a7⟩ := m
  obtain ⟨b0, b1, b2, b3, b4, b5, b6, b7⟩ := n
  by_cases h0 : a0 = b0
  case neg => simp [go_sem, Tryd.underlying23, Tryd.underlying3, Tryd.underlying9, h0]
  by_cases h1 : a1 = b1
  case neg => simp [go_sem, Tryd.underlying23, Tryd.underlying3, Tryd.underlying9, h0, h1]
  by_cases h2 : a2 = b2
  case neg => simp [go_sem, Tryd.underlying23, Tryd.underlying3, Tryd.underlying9, h0, h1, h2]
  by_cases h3 : a3 = b3
  case neg => simp [go_sem, Tryd.underlying23, Tryd.underlying3, Tryd.underlying9, h0, h1, h2, h3]
  by_cases h4 : a4 = b4
  case neg => simp [go_sem, Tryd.underlying23, Tryd.underlying3, Tryd.underlying9, h0, h1, h2, h3, h4]
  by_cases h5 : a5 = b5
  case neg => simp [go_sem, Tryd.underlying23, Tryd.underlying3, Tryd.underlying9, h0, h1, h2, h3, h4, h5]
  by_cases h6 : a6 = b6
  case neg => simp [go_sem, Tryd.underlying23, Tryd.underlying3, Tryd.underlying9, h0, h1, h2, h3, h4, h5, h6]
  have h7 : (a7.toList == b7.toList) = false := str_ne (fun e => h (by rw [h0, h1, h2, h3, h4, h5, h6, e]))
  simp [go_sem, Tryd.underlying23, Tryd.underlying3, Tryd.underlying9, h0, h1, h2, h3, h4, h5, h6, h7]
end Go.Proofs.YtjgicapjbibioaaDoor
