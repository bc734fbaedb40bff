/-
  since, Votes, Prepare, Accept, New (package ballot), by contracts.
-/
import Derived.Test.YtacbodojbekeeaaDoorAcp1
namespace Go.Proofs.YtacbodojbekeeaaDoor
open Go.RowKit

theorem below_grown {B : Nat} {w0 w w' : World} {row : Option Nat} (h : Below B w0 w) (hg : w.grownBy w' row) (hB : B ≤ w.heap.size) (hr : ∀ k, row = some k → B ≤ k) : Below B w0 w' :=
  ⟨hg.os.trans h.os, hg.tape.trans h.tape, hg.output.trans h.output, Nat.le_trans h.size hg.size, fun k hk => (hg.block k (by omega) (fun e => by have := hr k e.symm; omega)).trans (h.block k hk)⟩
theorem sub_len (l : List V) (lo hi : Int) : (sub l lo hi).length ≤ l.length := List.length_filter_le _ _

set_option maxRecDepth 100000 in
set_option maxHeartbeats 2000000 in
theorem since_any (a : Nat) (f p : Int) (l : List V) (w : World) (h : PC w a p l) (hs : Srt 0 l) :
    Calls Tryd.prog 32 #[.pointer (some ⟨a, 0, none⟩), .int .i64 f] w fun e w' => ∃ v, e = .returned v ∧ OwnsV 32 w' w.heap.size v (from_ l f) ∧ Below w.heap.size w w' := by
  obtain ⟨i0, hi0, hz0, hz1, hz2⟩ := info_parts infoP
  have hl := hs.len (by omega)
  have HP := Lib.hid h
  have HS := Lib.hid hs
  rw [← from_sub hs f]
  obtain ⟨m, hm⟩ : ∃ m : Nat, min (max f 0) 4096 = (m : Int) := ⟨(min (max f 0) 4096).toNat, by omega⟩
  have hm1 : m ≤ 4096 := by omega
  have hal := h.lt
  have HM := Lib.hid hm
  clear h hs
  rw [hm]
  have g0 : 0 ≤ min (max f 0) 4096 := by omega
  have g1 : min (max f 0) 4096 ≤ 4096 := by omega
  clear hm
  by_cases h96 : m = 4096
  · subst h96
    have g2 : min (max f 0) 4096 = 4096 := HM.out
    have he : sub l ((4096 : Nat) : Int) 4096 = [] := sub_none fun v _ => by omega
    rw [he]
    clear g0 g1
    go_enter Tryd.func32, Tryd.ntmps32
    go_wp2
    refine wp_loop_rounds 1 ?_
    rw [rounds_succ]
    go_wp2
    go_ret
    exact ⟨_, rfl, OwnsV.nil _ _ _, Below.refl _ _⟩
  have g2 : ¬ min (max f 0) 4096 = 4096 := by have := HM.out; omega
  go_enter Tryd.func32, Tryd.ntmps32
  go_wp2
  clear g0 g1 g2
  rw [HM.out, Int.toNat_natCast]
  go_loopw [5, 16] (fun v iv wr => ∃ k : Nat, k ≤ 4096 - m ∧ iv = .int .i64 k ∧ OwnsV 32 wr w.heap.size v (sub l m ((m + k : Nat) : Int)) ∧ Below w.heap.size w wr) (fun _ iv _ => (4096 - m) - (RowKit.intOf iv).toNat)
  case atStart => exact ⟨0, Nat.zero_le _, rfl, by rw [sub_none (fun v _ => by omega)]; exact OwnsV.nil _ _ _, Below.refl _ _⟩
  case round =>
    obtain ⟨k, hk, rfl, ho, hb⟩ := hrel
    have HO := Lib.hid ho
    have HB := Lib.hid hb
    clear ho hb
    by_cases hlt : k < 4096 - m
    · have hkI : (k : Int) < ((4096 - m : Nat) : Int) := by omega
      have hk0 : (0 : Int) ≤ (k : Int) := by omega
      obtain ⟨x, cx, hxn, hxs⟩ := (HP.out.below HB.out).slot (m + k) (by omega)
      rw [show 1 + (m + k) = 1 + m + k by omega] at cx
      have hmore := sub_more HS.out (m : Int) ((m + k : Nat) : Int) (by omega)
      rw [show ((m + k : Nat) : Int) + 1 = ((m + (k + 1) : Nat) : Int) by omega] at hmore
      cases hv : lk l ((m + k : Nat) : Int) with
      | none =>
        obtain rfl := hxn hv
        rw [hv, Option.toList_none, List.append_nil] at hmore
        have HO2 := Lib.hid (show OwnsV 32 wr w.heap.size _ (sub l m ((m + (k + 1) : Nat) : Int)) by rw [hmore]; exact HO.out)
        clear hxs hxn hv hmore HO
        go_wp2
        go_roundw
        case rel => exact ⟨k + 1, by omega, by go_num, HO2.out, HB.out⟩
        case measure => simp only [RowKit.intOf]; omega
      | some v =>
        obtain ⟨z, rfl, hz, hav⟩ := hxs v hv
        obtain ⟨c0, c1, c2⟩ := hav.all
        rw [hv, Option.toList_some] at hmore
        have hle := sub_len l m ((m + k : Nat) : Int)
        have HW := Lib.hid (vnews1 wr v 32)
        have HBA := Lib.hid (show Below wr.heap.size wr (wr.alloc (.cells v.cells 32)) from (Below.refl _ _).alloc (Nat.le_refl _) _)
        have HMo := Lib.hid hmore
        clear hxs hxn hv hmore hav
        go_wp2_with (at_builtin; refine wpList_append_lies _ rfl (.tmp 22) (.tmp 26) 36 rfl w.heap.size 32 i0 _ 3 32 Tryd.underlying36 hi0 hz0 hz1 hz2 rfl (by decide) _ _ _ rfl (HO.out.below HBA.out) ⟨wr.heap.size, 0, none⟩ 1 1 (vflat [v]) rfl (by simp [vflat]) HW.out (vflat_oneCell _) (by decide) (by unfold maxLen; omega) (by omega) (by have := HB.out.size; simp; omega) (wr.heap.size + 1) (by simp) ?_; intro g' cap w3 hown hgrow _ _; (have K2 := Lib.hid (below_grown (HB.out.trans (HBA.out.mono HB.out.size)) hgrow (by have := HB.out.size; simp; omega) (fun q hq => (HO.out.lt hq).1))); have K3 := Lib.hid (OwnsV.snoc hown); clear hown hgrow)
        go_roundw
        case rel => exact ⟨k + 1, by omega, by go_num, by rw [HMo.out]; simpa using K3.out, K2.out⟩
        case measure => simp only [RowKit.intOf]; omega
    · obtain rfl : k = 4096 - m := by omega
      have hlI : ¬ ((4096 - m : Nat) : Int) < ((4096 - m : Nat) : Int) := by omega
      have e : ((m + (4096 - m) : Nat) : Int) = 4096 := by omega
      rw [e] at HO
      go_wp2
      go_ret
      exact ⟨_, rfl, HO.out, HB.out⟩
end Go.Proofs.YtacbodojbekeeaaDoor
