/-
  Two alarms held against one another; theirs and shown (the laws of layer 6), the document's own Same, by contracts.
-/
import Derived.Test.YtcanagecdniiiaaStop
import Derived.Test.YtcanagecdniiiaaRset
import Derived.Laws.StructEq
namespace Go.Proofs.Ytcanagecdniiiaa
open Go.RowKit

theorem al_same31 (m : Al) (w : World) : (binOp .eql 31 m.val m.val).run Try.prog w = .ok (.bool true) w := by
  have hg : Try.prog.stoodInHeld 31 = false := by kernel_rfl
  have hf : Try.prog.underlying 31 = some (.struct (Try.prog.fieldsOf 31)) := by kernel_rfl
  rw [run_eql_struct, run_equalIn_struct w 9999 31 _ _ hf hg]
  simp [go_sem, Try.underlying31, Try.underlying3]
theorem al_other31 (m n : Al) (w : World) (h : m ≠ n) : (binOp .eql 31 m.val n.val).run Try.prog w = .ok (.bool false) w := by
  have hg : Try.prog.stoodInHeld 31 = false := by kernel_rfl
  have hf : Try.prog.underlying 31 = some (.struct (Try.prog.fieldsOf 31)) := by kernel_rfl
  rw [run_eql_struct, run_equalIn_struct w 9999 31 _ _ hf hg]
  obtain ⟨a0, a1, a2⟩ := m
  obtain ⟨b0, b1, b2⟩ := n
  by_cases h0 : a0 = b0
  case neg => simp [go_sem, Try.underlying31, Try.underlying3, h0]
  by_cases h1 : a1 = b1
  case neg => simp [go_sem, Try.underlying31, Try.underlying3, h0, h1]
  have h2 : ¬ (a2 = b2) := fun e => h (by rw [h0, h1, e])
  simp [go_sem, Try.underlying31, Try.underlying3, h0, h1, h2]
theorem al_eq31 (m n : Al) (w : World) : (binOp .eql 31 m.val n.val).run Try.prog w = .ok (.bool (decide (m = n))) w := by
  by_cases h : m = n
  · subst h; rw [decide_eq_true rfl]; exact al_same31 m w
  · rw [decide_eq_false h]; exact al_other31 m n w h
theorem al_neq31 (m n : Al) (w : World) : (binOp .neq 31 m.val n.val).run Try.prog w = .ok (.bool (!decide (m = n))) w := by
  have h1 := al_eq31 m n w
  rw [run_eql_struct] at h1
  rw [run_neq_struct]
  revert h1
  generalize Sem.run Try.prog (Op.equalIn 10000 31 _ _) w = r
  intro h1
  cases r <;> simp_all [Result.andThen]

theorem al_same40 (m : Al) (w : World) : (binOp .eql 40 m.val m.val).run Try.prog w = .ok (.bool true) w := by
  have hg : Try.prog.stoodInHeld 40 = false := by kernel_rfl
  have hf : Try.prog.underlying 40 = some (.struct (Try.prog.fieldsOf 40)) := by kernel_rfl
  rw [run_eql_struct, run_equalIn_struct w 9999 40 _ _ hf hg]
  simp [go_sem, Try.underlying40, Try.underlying3]
theorem al_other40 (m n : Al) (w : World) (h : m ≠ n) : (binOp .eql 40 m.val n.val).run Try.prog w = .ok (.bool false) w := by
  have hg : Try.prog.stoodInHeld 40 = false := by kernel_rfl
  have hf : Try.prog.underlying 40 = some (.struct (Try.prog.fieldsOf 40)) := by kernel_rfl
  rw [run_eql_struct, run_equalIn_struct w 9999 40 _ _ hf hg]
  obtain ⟨a0, a1, a2⟩ := m
  obtain ⟨b0, b1, b2⟩ := n
  by_cases h0 : a0 = b0
  case neg => simp [go_sem, Try.underlying40, Try.underlying3, h0]
  by_cases h1 : a1 = b1
  case neg => simp [go_sem, Try.underlying40, Try.underlying3, h0, h1]
  have h2 : ¬ (a2 = b2) := fun e => h (by rw [h0, h1, e])
  simp [go_sem, Try.underlying40, Try.underlying3, h0, h1, h2]
theorem al_eq40 (m n : Al) (w : World) : (binOp .eql 40 m.val n.val).run Try.prog w = .ok (.bool (decide (m = n))) w := by
  by_cases h : m = n
  · subst h; rw [decide_eq_true rfl]; exact al_same40 m w
  · rw [decide_eq_false h]; exact al_other40 m n w h
theorem al_neq40 (m n : Al) (w : World) : (binOp .neq 40 m.val n.val).run Try.prog w = .ok (.bool (!decide (m = n))) w := by
  have h1 := al_eq40 m n w
  rw [run_eql_struct] at h1
  rw [run_neq_struct]
  revert h1
  generalize Sem.run Try.prog (Op.equalIn 10000 40 _ _) w = r
  intro h1
  cases r <;> simp_all [Result.andThen]

set_option maxRecDepth 100000 in
set_option maxHeartbeats 2000000 in
theorem theirs_any (base : Nat) (v : Value) (l : List Al) (w : World) (ho : Owns 31 w base v l) (hl : l.length ≤ 1000) :
    Calls Try.prog 11 #[v] w fun e w' => ∃ u, e = .returned u ∧ Owns 40 w' w.heap.size u l ∧ Below w.heap.size w w' := by
  obtain ⟨i0, hi0, hz0, hz1, hz2⟩ := info_parts infoR
  obtain ⟨A, cap, rfl⟩ := ho.shape
  have HO := Lib.hid ho
  clear ho
  have hb1 : Below w.heap.size w (w.alloc (.cells #[] 40)) := (Below.refl _ _).alloc (Nat.le_refl _) _
  have B1 := Lib.hid hb1
  have O1 := Lib.hid (Owns.lit (e := 40) (w := w) (Nat.le_refl w.heap.size))
  clear hb1
  go_enter Try.func11, Try.ntmps11
  go_wp2
  go_loopw [3, 4] (fun u iv wr => ∃ k : Nat, k ≤ l.length ∧ iv = .int .i64 k ∧ Owns 40 wr w.heap.size u (l.take k) ∧ Below w.heap.size w wr) (fun _ iv _ => l.length - (intOf iv).toNat)
  case atStart => exact ⟨0, Nat.zero_le _, rfl, O1.out, B1.out⟩
  case round =>
    obtain ⟨k, hk, rfl, hown, hB⟩ := hrel
    have O2 := Lib.hid hown
    have B2 := Lib.hid hB
    clear hown hB
    have hzs : w.heap.size ≤ wr.heap.size := B2.out.size
    by_cases hlt : k < l.length
    · obtain ⟨m, hm⟩ : ∃ m, l[k]? = some m := ⟨_, List.getElem?_eq_getElem hlt⟩
      have hlI : (k : Int) < (l.length : Int) := by omega
      have hkI : (0 : Int) ≤ (k : Int) := by omega
      rcases (HO.out.below B2.out).form with ⟨-, rfl⟩ | ⟨g, cap', e1, hbg, hgl, -, -, hat⟩
      · simp at hlt
      cases e1
      obtain ⟨d0, d1, d2⟩ := hat k m hm
      have htk := Lib.hid (show l.take (k + 1) = l.take k ++ [m] by rw [List.take_add_one, hm]; rfl)
      have hlen : (l.take k).length ≤ 1000 := by rw [List.length_take]; omega
      clear hat hm
      go_wp2_with (at_builtin; refine wpList_append_lies _ rfl (.tmp 12) (.tmp 17) 26 rfl w.heap.size 40 i0 _ 3 24 Try.underlying26 hi0 hz0 hz1 hz2 rfl (by decide) _ _ _ rfl (O2.out.below (below_al wr m)) ⟨wr.heap.size, 0, none⟩ 1 1 (flat [m]) rfl (by simp [flat]) (news1 wr m 40) (flat_oneCell _) (by decide) (by unfold maxLen; omega) (by omega) (by simp; omega) (wr.heap.size + 1) (by simp) ?_; intro g3 cap3 w3 hown hgrow _ _; (have P3 := Lib.hid (Owns.snoc hown)); (have Q3 := Lib.hid (below_grown (B2.out.trans ((below_al wr m).mono hzs)) hgrow (by simp; omega) (fun k hk => (O2.out.lt hk).1))); clear hown hgrow)
      go_roundw
      case rel => exact ⟨k + 1, by omega, by go_num, by rw [htk.out]; simpa [show min k l.length = k by omega] using P3.out, Q3.out⟩
      case measure => simp [intOf]; omega
    · have hlI : ¬ ((k : Int) < (l.length : Int)) := by omega
      obtain rfl : k = l.length := by omega
      rw [List.take_length] at O2
      go_wp2
      go_ret
      exact ⟨_, rfl, O2.out, B2.out⟩

set_option maxRecDepth 100000 in
set_option maxHeartbeats 2000000 in
theorem same_any (B1 B2 : Nat) (v u : Value) (l k : List Al) (w : World) (hv : Owns 40 w B1 v l) (hu : Owns 40 w B2 u k) (hl : l.length ≤ 1000) :
    Calls Try.prog 10 #[v, u] w fun e w' => e = .returned (.bool (decide (l = k))) ∧ Below w.heap.size w w' := by
  obtain ⟨A, ca, rfl⟩ := hv.shape
  obtain ⟨A', cb, rfl⟩ := hu.shape
  obtain ⟨r, hr⟩ : ∃ r, decide (l = k) = r := ⟨_, rfl⟩
  rw [hr]
  have HR := Lib.hid hr
  have HV := Lib.hid hv
  have HU := Lib.hid hu
  clear hv hu hr
  by_cases hne : l.length = k.length
  · have hn1 : ((l.length : Int) != (k.length : Int)) = false := by simp; omega
    have HE := Lib.hid hne
    clear hne
    go_enter Try.func10, Try.ntmps10
    go_wp2
    clear hn1
    go_loopw [5] (fun iv wr => ∃ j : Nat, j ≤ l.length ∧ iv = .int .i64 j ∧ l.take j = k.take j ∧ Below w.heap.size w wr) (fun iv _ => l.length - (intOf iv).toNat)
    case atStart => exact ⟨0, Nat.zero_le _, rfl, rfl, Below.refl _ _⟩
    case round =>
      obtain ⟨j, hj, rfl, htk, hB⟩ := hrel
      have HT := Lib.hid htk
      have HW := Lib.hid hB
      clear htk hB
      by_cases hlt : j < l.length
      · obtain ⟨m, hm⟩ : ∃ m, l[j]? = some m := ⟨_, List.getElem?_eq_getElem hlt⟩
        obtain ⟨m', hm'⟩ : ∃ m, k[j]? = some m := ⟨_, List.getElem?_eq_getElem (by rw [← HE.out]; exact hlt)⟩
        have hlI : (j : Int) < (l.length : Int) := by omega
        have hlJ : (j : Int) < (k.length : Int) := by have := HE.out; omega
        have hkI : (0 : Int) ≤ (j : Int) := by omega
        rcases (HV.out.below HW.out).form with ⟨-, rfl⟩ | ⟨g, cap', e1, -, -, -, -, hat⟩
        · simp at hlt
        rcases (HU.out.below HW.out).form with ⟨-, rfl⟩ | ⟨g', cap2, e2, -, -, -, -, hat'⟩
        · simp at hm'
        cases e1
        cases e2
        obtain ⟨c0, c1, c2⟩ := hat j m hm
        obtain ⟨d0, d1, d2⟩ := hat' j m' hm'
        clear hat hat'
        have H1 := Lib.hid hm
        have H2 := Lib.hid hm'
        clear hm hm'
        by_cases he : m = m'
        · subst he
          have hq := fun w => (decide_eq_true (rfl : m = m)) ▸ al_neq40 m m w
          simp only [Bool.not_true] at hq
          go_wp2
          go_quiet (fail)
          go_wp2
          go_roundw
          case rel => exact ⟨j + 1, by omega, by go_num, by rw [List.take_add_one, List.take_add_one, H1.out, H2.out, HT.out], below_drewN HW.out _⟩
          case measure => simp [intOf]; omega
        · have hq := fun w => (decide_eq_false he) ▸ al_neq40 m m' w
          simp only [Bool.not_false] at hq
          have hr : r = false := by
            rw [← HR.out]
            refine decide_eq_false fun e => he ?_
            have h1 := H1.out
            rw [e, H2.out] at h1
            exact (Option.some.inj h1).symm
          subst hr
          go_wp2
          go_quiet (fail)
          go_wp2
          go_ret
          exact ⟨rfl, below_drewN HW.out _⟩
      · have hlI : ¬ ((j : Int) < (l.length : Int)) := by omega
        obtain rfl : j = l.length := by omega
        have hr : r = true := by
          rw [← HR.out]
          refine decide_eq_true ?_
          have h1 := HT.out
          rwa [List.take_length, HE.out, List.take_length] at h1
        subst hr
        go_wp2
        go_ret
        exact ⟨rfl, HW.out⟩
  · have hn1 : ((l.length : Int) != (k.length : Int)) = true := by simp; omega
    have hr : r = false := by
      rw [← HR.out]
      exact decide_eq_false fun e => hne (by rw [e])
    subst hr
    clear hne
    go_enter Try.func10, Try.ntmps10
    go_wp2
    go_ret
    exact ⟨rfl, Below.refl _ _⟩

theorem i64_zero : i64 0 := by decide
theorem shown_any (w : World) :
    Calls Try.prog 15 #[] w fun e w' => e = .returned (.bool true) ∧ Below w.heap.size w w' := by
  go_enter Try.func15, Try.ntmps15
  go_wp2_with fail
  go_at_call 8
  refine (new_any _).mono ?_
  rintro e w1 ⟨rfl, k1, k2, k3⟩
  have HS := Lib.hid (stop_any _ _ [] 0 0 w1 k1 i64_zero i64_zero)
  have HB := Lib.hid k2
  have h9 : stopE [] 0 0 = 3 := rfl
  rw [h9] at HS
  clear k1 k2 k3 h9
  go_wp2_with fail
  go_at_call 21
  refine HS.out.mono ?_
  rintro e w2 ⟨rfl, k1, k2⟩
  have HB2 := Lib.hid (below_grown HB.out k2 HB.out.size (by rintro k ⟨rfl⟩; exact Nat.le_refl _))
  clear k1 k2
  go_wp2
  go_ret
  exact ⟨rfl, HB2.out⟩
end Go.Proofs.Ytcanagecdniiiaa
