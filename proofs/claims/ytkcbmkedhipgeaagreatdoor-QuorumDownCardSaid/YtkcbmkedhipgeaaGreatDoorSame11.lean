/-
  Same (weirkeepref11), by a contract: are they the same texts.
-/
import Derived.Test.YtkcbmkedhipgeaaGreatDoorMem11
namespace Go.Proofs.YtkcbmkedhipgeaaGreatDoor
open Go.RowKit Go.ChangeMaps

/-- A value that shows these texts. -/
def Sh (w : World) (v : Value) (l : List ByteArray) : Prop := ∃ A c, v = .slice A l.length c ∧ ∀ i x, l[i]? = some x → ∃ g, A = some ⟨g, 0, none⟩ ∧ g < w.heap.size ∧ w.cell? ⟨g, i, none⟩ = some (.string x)
theorem OwnsS.sh {w : World} {base : Nat} {v : Value} {l : List ByteArray} (h : OwnsS w base v l) : Sh w v l := by
  obtain ⟨A, c, hv, -, hg⟩ := h.form
  exact ⟨A, c, hv, hg⟩
theorem Sh.below {w w' : World} {v : Value} {l : List ByteArray} (h : Sh w v l) (hb : Below w.heap.size w w') : Sh w' v l := by
  obtain ⟨A, c, hv, hg⟩ := h
  refine ⟨A, c, hv, fun i x hx => ?_⟩
  obtain ⟨g, h1, h2, h3⟩ := hg i x hx
  exact ⟨g, h1, Nat.lt_of_lt_of_le h2 hb.size, (hb.cell (p := ⟨g, i, none⟩) h2).trans h3⟩
theorem takeS_snoc {l : List ByteArray} {k : Nat} {x : ByteArray} (h : l[k]? = some x) : l.take (k + 1) = l.take k ++ [x] := by
  rw [List.take_add_one, h]; rfl
theorem takeS_same {l1 l2 : List ByteArray} {k : Nat} {x y : ByteArray} (h1 : l1[k]? = some x) (h2 : l2[k]? = some y) (h : l1.take k = l2.take k) (e : x = y) : l1.take (k + 1) = l2.take (k + 1) := by
  rw [takeS_snoc h1, takeS_snoc h2, h, e]
set_option maxRecDepth 100000 in
set_option maxHeartbeats 2000000 in
theorem same11_any {w : World} {v1 v2 : Value} {l1 l2 : List ByteArray} (h1 : Sh w v1 l1) (h2 : Sh w v2 l2) (hl1 : l1.length ≤ 100000) :
    Calls Tryz.prog 15 #[v1, v2] w fun e w' => e = .returned (.bool (decide (l1 = l2))) ∧ Below w.heap.size w w' := by
  obtain ⟨A1, c1, rfl, hc1⟩ := h1
  obtain ⟨A2, c2, rfl, hc2⟩ := h2
  have HC1 := Lib.hid hc1
  have HC2 := Lib.hid hc2
  clear hc1 hc2
  obtain ⟨r, hr⟩ : ∃ r, decide (l1 = l2) = r := ⟨_, rfl⟩
  rw [hr]
  have HR := Lib.hid hr
  clear hr
  by_cases hl : l1.length = l2.length
  · have hlI : ((l1.length : Int) != (l2.length : Int)) = false := by simp; omega
    rw [← hl]
    go_enter Tryz.func15, Tryz.ntmps15
    go_wp2
    go_loopw [5] (fun iv wr => ∃ k : Nat, k ≤ l1.length ∧ iv = .int .i64 k ∧ l1.take k = l2.take k ∧ Below w.heap.size w wr) (fun iv _ => l1.length - (RowKit.intOf iv).toNat)
    case atStart => exact ⟨0, Nat.zero_le _, rfl, rfl, Below.refl _ _⟩
    case round =>
      obtain ⟨k, hk, rfl, ht, hb⟩ := hrel
      have HB := Lib.hid hb
      have HT := Lib.hid ht
      clear hb ht
      by_cases hlt : k < l1.length
      · obtain ⟨x, hx⟩ : ∃ x, l1[k]? = some x := ⟨_, List.getElem?_eq_getElem hlt⟩
        obtain ⟨y, hy⟩ : ∃ y, l2[k]? = some y := ⟨_, List.getElem?_eq_getElem (by omega)⟩
        obtain ⟨g, rfl, hg, p1⟩ := HC1.out k x hx
        obtain ⟨g', rfl, hg', p2⟩ := HC2.out k y hy
        have q1 := (HB.out.drew.cell (p := ⟨g, k, none⟩) hg).trans p1
        have q2 := (HB.out.drew.cell (p := ⟨g', k, none⟩) hg').trans p2
        have hkI : (k : Int) < (l1.length : Int) := by omega
        have hk0 : (0 : Int) ≤ (k : Int) := by omega
        have HB1 := Lib.hid (HB.out.drew)
        have HX := Lib.hid hx
        have HY := Lib.hid hy
        clear p1 p2 hx hy HC1 HC2
        by_cases e : x = y
        · have HN := Lib.hid (takeS_same HX.out HY.out HT.out e)
          subst e
          go_wp2_with fail
          go_region
          all_goals
            go_wp2
            go_roundw
            case rel => exact ⟨k + 1, by omega, by go_num, HN.out, HB1.out⟩
            case measure => simp only [RowKit.intOf]; omega
        · have hne2 : decide (l1 = l2) = false := decide_eq_false fun h => e (Option.some.inj (HX.out.symm.trans (by rw [h]; exact HY.out)))
          obtain rfl : r = false := HR.out.symm.trans hne2
          have hxy : (x.toList == y.toList) = false := str_ne e
          clear hne2
          go_wp2_with fail
          go_region
          all_goals
            go_wp2
            go_ret
            exact ⟨rfl, HB1.out⟩
      · obtain rfl : k = l1.length := by omega
        have hlI : ¬ ((l1.length : Int) < (l1.length : Int)) := by omega
        have ht := HT.out
        rw [List.take_length, hl, List.take_length] at ht
        obtain rfl : r = true := HR.out.symm.trans (decide_eq_true ht)
        clear ht
        go_wp2
        go_ret
        exact ⟨rfl, HB.out⟩
  · have hlI : ((l1.length : Int) != (l2.length : Int)) = true := by simp; omega
    have hne : decide (l1 = l2) = false := decide_eq_false fun h => hl (by rw [h])
    obtain rfl : r = false := HR.out.symm.trans hne
    have hlI' : ¬ (l1.length : Int) = (l2.length : Int) := by omega
    clear hl hne
    go_enter Tryz.func15, Tryz.ntmps15
    go_wp2
    go_ret
    exact ⟨rfl, Below.refl _ _⟩
end Go.Proofs.YtkcbmkedhipgeaaGreatDoor
