/-
  Prepare and Accept of the document's own acceptor (weirkeepref10), by contracts.
-/
import Derived.Test.YtacbodojbekeeaaDoorSame10
namespace Go.Proofs.YtacbodojbekeeaaDoor
open Go.RowKit

theorem from_snoc {l : List V} {k : Nat} {x : V} (f : Int) (h : l[k]? = some x) : from_ (l.take (k + 1)) f = from_ (l.take k) f ++ (if f ≤ x.s then [x] else []) := by
  rw [take_snocV h]
  unfold from_
  rw [List.filter_append]
  congr 1
  by_cases hf : f ≤ x.s
  · rw [if_pos hf]; simp [hf]
  · rw [if_neg hf]; simp [hf]

set_option maxRecDepth 100000 in
set_option maxHeartbeats 2000000 in
theorem rprepare_any (r : Nat) (b f : Int) (A : Acc) (w : World) (h : RC w r A.p A.l) (hl : A.l.length ≤ 4096) :
    Calls Tryd.prog 14 #[.pointer (some ⟨r, 0, none⟩), .int .i64 b, .int .i64 f] w fun e w' => ∃ v, e = .returned (.tuple #[v, .int .i64 (prepE A b)]) ∧ OwnsV 46 w' w.heap.size v (prepL A b f) ∧ RC w' r (A.prep b).p (A.prep b).l ∧ Fb r w w' := by
  obtain ⟨i0, hi0, hz0, hz1, hz2⟩ := info_parts infoR
  have HI := Lib.hid (risB_any b)
  have HP := Lib.hid h
  have Q := @prepE_zero A b
  obtain ⟨c0, -⟩ := h.form
  have f0 := h.free 0
  have hrl := h.lt
  by_cases h1 : isB b
  · rw [decide_eq_true h1] at HI
    by_cases h2 : b < A.p
    · have e : prepE A b = 5 := by unfold prepE; rw [if_pos h1, if_pos h2]
      have e1 : prepL A b f = [] := by unfold prepL; rw [if_neg (by omega)]
      have e2 : A.prep b = A := by unfold Acc.prep; rw [if_neg (by omega)]
      rw [e, e1, e2]
      clear e e1 e2 h1 h Q
      go_enter Tryd.func14, Tryd.ntmps14
      go_wp2_with (go_at_call 33; refine (HI.out _).mono ?_; rintro e w' ⟨rfl, rfl⟩)
      go_ret2
      exact ⟨_, rfl, OwnsV.nil _ _ _, HP.out, Fb.same⟩
    · have e : prepE A b = 0 := Q.2 ⟨h1, by omega⟩
      have e1 : prepL A b f = from_ A.l f := by unfold prepL; rw [if_pos e]
      have e2 : A.prep b = ⟨b, A.l⟩ := by unfold Acc.prep; rw [if_pos e]
      rw [e, e1, e2]
      have hp1 := h.prom b
      have HF1 := Lib.hid ((Fb.same (b := r) (w := w)).set 0 (.int .i64 b))
      clear e e1 e2 h1 h Q
      obtain ⟨p, l⟩ := A
      have hl' : l.length ≤ 4096 := hl
      have c0' : w.cell? ⟨r, 0, none⟩ = some (.int .i64 p) := c0
      have h2' : ¬ b < p := h2
      clear c0 h2 hl
      have HPP := Lib.hid (show RC (w.setCell ⟨r, 0, none⟩ (.int .i64 b)) r b l from hp1)
      clear hp1
      go_enter Tryd.func14, Tryd.ntmps14
      go_wp2_with (go_at_call 33; refine (HI.out _).mono ?_; rintro e w' ⟨rfl, rfl⟩)
      have hz0' : (w.setCell ⟨r, 0, none⟩ (.int .i64 b)).heap.size = w.heap.size := by simp [World.setCell]
      generalize w.setCell ⟨r, 0, none⟩ (.int .i64 b) = w1 at HF1 HPP hz0' ⊢
      clear c0' f0 HP h2'
      have HL0 := Lib.hid (OwnsV.lit (e := 46) (Nat.le_refl w1.heap.size))
      have HB0 := Lib.hid (show Below w1.heap.size w1 (w1.alloc (.cells #[] 46)) from (Below.refl _ _).alloc (Nat.le_refl _) _)
      go_loopw [8, 9] (fun u iv wr => ∃ k : Nat, k ≤ l.length ∧ iv = .int .i64 k ∧ OwnsV 46 wr w1.heap.size u (from_ (l.take k) f) ∧ Below w1.heap.size w1 wr) (fun _ iv _ => l.length - (RowKit.intOf iv).toNat)
      case atStart => exact ⟨0, Nat.zero_le _, rfl, by have h := HL0.out; rw [hz0'] at h ⊢; exact h, HB0.out⟩
      case round =>
        obtain ⟨k, hk, rfl, ho, hb⟩ := hrel
        have HO := Lib.hid ho
        have HB := Lib.hid hb
        clear ho hb
        obtain ⟨-, A, c, c1, -, hc⟩ := (HPP.out.below HB.out).form
        by_cases hlt : k < l.length
        · have hkI : (k : Int) < (l.length : Int) := by omega
          have hk0 : (0 : Int) ≤ (k : Int) := by omega
          obtain ⟨x, hx⟩ : ∃ x, l[k]? = some x := ⟨_, List.getElem?_eq_getElem hlt⟩
          obtain ⟨g, rfl, hg, -, hv⟩ := hc k x hx
          obtain ⟨x0, x1, x2⟩ := hv
          have hsn := from_snoc f hx
          have hle := from_len (l.take k) f
          have hlk : (l.take k).length ≤ 4096 := by rw [List.length_take]; omega
          clear hc hx
          by_cases hf : f ≤ x.s
          · rw [if_pos hf] at hsn
            have HSn := Lib.hid hsn
            have HW := Lib.hid (vnews1 wr x 46)
            have HBA := Lib.hid (show Below wr.heap.size wr (wr.alloc (.cells x.cells 46)) from (Below.refl _ _).alloc (Nat.le_refl _) _)
            clear hsn
            go_wp2_with (at_builtin; refine wpList_append_lies _ rfl (.tmp 43) (.tmp 51) 28 rfl w1.heap.size 46 i0 _ 3 32 Tryd.underlying28 hi0 hz0 hz1 hz2 rfl (by decide) _ _ _ rfl (HO.out.below HBA.out) ⟨wr.heap.size, 0, none⟩ 1 1 (vflat [x]) rfl (by simp [vflat]) HW.out (vflat_oneCell _) (by decide) (by unfold maxLen; omega) (by omega) (by have := HB.out.size; simp; omega) (wr.heap.size + 1) (by simp) ?_; intro g' cap w3 hown hgrow _ _; (have K2 := Lib.hid (below_grown (HB.out.trans (HBA.out.mono HB.out.size)) hgrow (by have := HB.out.size; simp; omega) (fun q hq => (HO.out.lt hq).1))); have K3 := Lib.hid (OwnsV.snoc hown); clear hown hgrow)
            go_roundw
            case rel => exact ⟨k + 1, by omega, by go_num, by rw [HSn.out]; simpa using K3.out, K2.out⟩
            case measure => simp only [RowKit.intOf]; omega
          · rw [if_neg hf, List.append_nil] at hsn
            have HO2 := Lib.hid (show OwnsV 46 wr w1.heap.size _ (from_ (l.take (k + 1)) f) by rw [hsn]; exact HO.out)
            clear hsn HO
            go_wp2
            go_roundw
            case rel => exact ⟨k + 1, by omega, by go_num, HO2.out, HB.out⟩
            case measure => simp only [RowKit.intOf]; omega
        · obtain rfl : k = l.length := by omega
          have hlI : ¬ ((l.length : Int) < (l.length : Int)) := by omega
          rw [List.take_length] at HO
          clear hc
          go_wp2
          go_ret2
          exact ⟨_, rfl, HO.out.mono (by omega), HPP.out.below HB.out, HF1.out.then_below HB.out⟩
  · rw [decide_eq_false h1] at HI
    have e : prepE A b = 1 := by unfold prepE; rw [if_neg h1]
    have e1 : prepL A b f = [] := by unfold prepL; rw [if_neg (by omega)]
    have e2 : A.prep b = A := by unfold Acc.prep; rw [if_neg (by omega)]
    rw [e, e1, e2]
    clear e e1 e2 h1 h Q
    go_enter Tryd.func14, Tryd.ntmps14
    go_wp2_with (go_at_call 33; refine (HI.out _).mono ?_; rintro e w' ⟨rfl, rfl⟩)
    go_ret2
    exact ⟨_, rfl, OwnsV.nil _ _ _, HP.out, Fb.same⟩
end Go.Proofs.YtacbodojbekeeaaDoor
