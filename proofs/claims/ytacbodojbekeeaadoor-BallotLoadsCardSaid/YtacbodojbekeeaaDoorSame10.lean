/-
  Same (weirkeepref10) and theirs (the laws' own), by contracts: are they the same votes; the votes as the document's.
-/
import Derived.Test.YtacbodojbekeeaaDoorAcp2
namespace Go.Proofs.YtacbodojbekeeaaDoor
open Go.RowKit

theorem take_snocV {l : List V} {k : Nat} {x : V} (h : l[k]? = some x) : l.take (k + 1) = l.take k ++ [x] := by
  rw [List.take_add_one, h]; rfl
theorem take_same {l1 l2 : List V} {k : Nat} {x y : V} (h1 : l1[k]? = some x) (h2 : l2[k]? = some y) (h : l1.take k = l2.take k) (e : x = y) : l1.take (k + 1) = l2.take (k + 1) := by
  rw [take_snocV h1, take_snocV h2, h, e]
set_option maxRecDepth 100000 in
set_option maxHeartbeats 2000000 in
theorem same10_any {w : World} {b1 b2 : Nat} {v1 v2 : Value} {l1 l2 : List V} (h1 : OwnsV 46 w b1 v1 l1) (h2 : OwnsV 46 w b2 v2 l2) (hl1 : l1.length ≤ 100000) :
    Calls Tryd.prog 15 #[v1, v2] w fun e w' => e = .returned (.bool (decide (l1 = l2))) ∧ Below w.heap.size w w' := by
  obtain ⟨A1, c1, rfl, hc1⟩ := vshape h1
  obtain ⟨A2, c2, rfl, hc2⟩ := vshape h2
  clear h1 h2
  have HC1 := Lib.hid hc1
  have HC2 := Lib.hid hc2
  clear hc1 hc2
  obtain ⟨r, hr⟩ : ∃ r, decide (l1 = l2) = r := ⟨_, rfl⟩
  rw [hr]
  have HR := Lib.hid hr
  clear hr
  by_cases hl : l1.length = l2.length
  · have hlI : ((l1.length : Int) != (l2.length : Int)) = false := by simp; omega
    rw [← hl]
    go_enter Tryd.func15, Tryd.ntmps15
    go_wp2
    go_loopw [5] (fun iv wr => ∃ k : Nat, k ≤ l1.length ∧ iv = .int .i64 k ∧ l1.take k = l2.take k ∧ Below w.heap.size w wr) (fun iv _ => l1.length - (RowKit.intOf iv).toNat)
    case atStart => exact ⟨0, Nat.zero_le _, rfl, rfl, Below.refl _ _⟩
    case round =>
      obtain ⟨k, hk, rfl, ht, hb⟩ := hrel
      have HB := Lib.hid hb
      have HT := Lib.hid ht
      clear hb ht
      by_cases hlt : k < l1.length
      · obtain ⟨x, hx⟩ : ∃ x, l1[k]? = some x := ⟨_, List.getElem?_eq_getElem hlt⟩
        obtain ⟨y, hy⟩ : ∃ y, l2[k]? = some y := ⟨_, List.getElem?_eq_getElem (by omega)⟩
        obtain ⟨g, rfl, hg, p1⟩ := HC1.out k x hx
        obtain ⟨g', rfl, hg', p2⟩ := HC2.out k y hy
        obtain ⟨q0, q1, q2⟩ := (p1.below HB.out hg).below (Below.refl _ wr).drew (Nat.lt_of_lt_of_le hg HB.out.size)
        obtain ⟨r0, r1, r2⟩ := (p2.below HB.out hg').below (Below.refl _ wr).drew (Nat.lt_of_lt_of_le hg' HB.out.size)
        have hkI : (k : Int) < (l1.length : Int) := by omega
        have hk0 : (0 : Int) ≤ (k : Int) := by omega
        have HB1 := Lib.hid (HB.out.drew)
        have hne := rv_neq x y
        have HX := Lib.hid hx
        have HY := Lib.hid hy
        clear p1 p2 hx hy HC1 HC2
        by_cases e : x = y
        · rw [decide_eq_true e] at hne
          have HN := Lib.hid (take_same HX.out HY.out HT.out e)
          clear e
          go_wp2_with fail
          go_region
          all_goals
            go_wp2
            go_roundw
            case rel => exact ⟨k + 1, by omega, by go_num, HN.out, HB1.out⟩
            case measure => simp only [RowKit.intOf]; omega
        · rw [decide_eq_false e] at hne
          have hne2 : decide (l1 = l2) = false := decide_eq_false fun h => e (Option.some.inj (HX.out.symm.trans (by rw [h]; exact HY.out)))
          obtain rfl : r = false := HR.out.symm.trans hne2
          clear hne2 e
          go_wp2_with fail
          go_region
          all_goals
            go_wp2
            go_ret
            exact ⟨rfl, HB1.out⟩
      · obtain rfl : k = l1.length := by omega
        have hlI : ¬ ((l1.length : Int) < (l1.length : Int)) := by omega
        have ht := HT.out
        rw [List.take_length, hl, List.take_length] at ht
        obtain rfl : r = true := HR.out.symm.trans (decide_eq_true ht)
        clear ht
        go_wp2
        go_ret
        exact ⟨rfl, HB.out⟩
  · have hlI : ((l1.length : Int) != (l2.length : Int)) = true := by simp; omega
    have hne : decide (l1 = l2) = false := decide_eq_false fun h => hl (by rw [h])
    obtain rfl : r = false := HR.out.symm.trans hne
    have hlI' : ¬ (l1.length : Int) = (l2.length : Int) := by omega
    clear hl hne
    go_enter Tryd.func15, Tryd.ntmps15
    go_wp2
    go_ret
    exact ⟨rfl, Below.refl _ _⟩

set_option maxRecDepth 100000 in
set_option maxHeartbeats 2000000 in
theorem theirs_any {w : World} {base : Nat} {v : Value} {l : List V} (h : OwnsV 32 w base v l) (hl : l.length ≤ 100000) :
    Calls Tryd.prog 16 #[v] w fun e w' => ∃ u, e = .returned u ∧ OwnsV 46 w' w.heap.size u l ∧ Below w.heap.size w w' := by
  obtain ⟨i0, hi0, hz0, hz1, hz2⟩ := info_parts infoR
  obtain ⟨A, c, rfl, hc⟩ := vshape h
  clear h
  have HC := Lib.hid hc
  have HL0 := Lib.hid (OwnsV.lit (e := 46) (Nat.le_refl w.heap.size))
  have HB0 := Lib.hid (show Below w.heap.size w (w.alloc (.cells #[] 46)) from (Below.refl _ _).alloc (Nat.le_refl _) _)
  clear hc
  go_enter Tryd.func16, Tryd.ntmps16
  go_wp2
  go_loopw [3, 4] (fun u iv wr => ∃ k : Nat, k ≤ l.length ∧ iv = .int .i64 k ∧ OwnsV 46 wr w.heap.size u (l.take k) ∧ Below w.heap.size w wr) (fun _ iv _ => l.length - (RowKit.intOf iv).toNat)
  case atStart => exact ⟨0, Nat.zero_le _, rfl, HL0.out, HB0.out⟩
  case round =>
    obtain ⟨k, hk, rfl, ho, hb⟩ := hrel
    have HO := Lib.hid ho
    have HB := Lib.hid hb
    clear ho hb
    by_cases hlt : k < l.length
    · have hkI : (k : Int) < (l.length : Int) := by omega
      have hk0 : (0 : Int) ≤ (k : Int) := by omega
      obtain ⟨x, hx⟩ : ∃ x, l[k]? = some x := ⟨_, List.getElem?_eq_getElem hlt⟩
      obtain ⟨g, rfl, hg, hv⟩ := HC.out k x hx
      obtain ⟨c0, c1, c2⟩ := hv.below HB.out hg
      have HT := Lib.hid (take_snocV hx)
      have hlen : (l.take k).length = k := by rw [List.length_take]; omega
      have HW := Lib.hid (vnews1 wr x 46)
      have HBA := Lib.hid (show Below wr.heap.size wr (wr.alloc (.cells x.cells 46)) from (Below.refl _ _).alloc (Nat.le_refl _) _)
      clear hv HC hx
      go_wp2_with (at_builtin; refine wpList_append_lies _ rfl (.tmp 12) (.tmp 17) 28 rfl w.heap.size 46 i0 _ 3 32 Tryd.underlying28 hi0 hz0 hz1 hz2 rfl (by decide) _ _ _ rfl (HO.out.below HBA.out) ⟨wr.heap.size, 0, none⟩ 1 1 (vflat [x]) rfl (by simp [vflat]) HW.out (vflat_oneCell _) (by decide) (by unfold maxLen; omega) (by omega) (by have := HB.out.size; simp; omega) (wr.heap.size + 1) (by simp) ?_; intro g' cap w3 hown hgrow _ _; (have K2 := Lib.hid (below_grown (HB.out.trans (HBA.out.mono HB.out.size)) hgrow (by have := HB.out.size; simp; omega) (fun q hq => (HO.out.lt hq).1))); have K3 := Lib.hid (OwnsV.snoc hown); clear hown hgrow)
      go_roundw
      case rel => exact ⟨k + 1, by omega, by go_num, by rw [HT.out]; simpa [hlen] using K3.out, K2.out⟩
      case measure => simp only [RowKit.intOf]; omega
    · obtain rfl : k = l.length := by omega
      have hlI : ¬ ((l.length : Int) < (l.length : Int)) := by omega
      rw [List.take_length] at HO
      go_wp2
      go_ret
      exact ⟨_, rfl, HO.out, HB.out⟩
end Go.Proofs.YtacbodojbekeeaaDoor
