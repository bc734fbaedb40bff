/-
  The little functions (package ballot), by contracts: isBallot, promise, wrong, vote, Promised; a copied text.

  since, Votes, Prepare, Accept, New (package ballot), by contracts.
-/
import Derived.Test.YtkcbmkedhipgeaaGreatDoorMem
import Derived.Test.YtkcbmkedhipgeaaGreatDoorLayClone
namespace Go.Proofs.YtkcbmkedhipgeaaGreatDoor
open Go.RowKit

theorem isB_any (b : Int) (w : World) : Calls Tryz.prog 55 #[.int .i64 b] w fun e w' => e = .returned (.bool (decide (isB b))) ∧ w = w' := by
  by_cases h1 : 1 ≤ b
  · by_cases h2 : b ≤ 1099511627776
    · rw [decide_eq_true (show isB b from ⟨h1, h2⟩)]
      go_enter Tryz.func55, Tryz.ntmps55
      go_wp2
      go_ret
      exact ⟨rfl, rfl⟩
    · rw [decide_eq_false (fun h : isB b => h2 h.2)]
      go_enter Tryz.func55, Tryz.ntmps55
      go_wp2
      go_ret
      exact ⟨rfl, rfl⟩
  · rw [decide_eq_false (fun h : isB b => h1 h.1)]
    go_enter Tryz.func55, Tryz.ntmps55
    go_wp2
    go_ret
    exact ⟨rfl, rfl⟩
theorem risB_any (b : Int) (w : World) : Calls Tryz.prog 69 #[.int .i64 b] w fun e w' => e = .returned (.bool (decide (isB b))) ∧ w = w' := by
  by_cases h1 : 1 ≤ b
  · by_cases h2 : b ≤ 1099511627776
    · rw [decide_eq_true (show isB b from ⟨h1, h2⟩)]
      go_enter Tryz.func69, Tryz.ntmps69
      go_wp2
      go_ret
      exact ⟨rfl, rfl⟩
    · rw [decide_eq_false (fun h : isB b => h2 h.2)]
      go_enter Tryz.func69, Tryz.ntmps69
      go_wp2
      go_ret
      exact ⟨rfl, rfl⟩
  · rw [decide_eq_false (fun h : isB b => h1 h.1)]
    go_enter Tryz.func69, Tryz.ntmps69
    go_wp2
    go_ret
    exact ⟨rfl, rfl⟩

theorem promise_any (a : Nat) (b p : Int) (l : List V) (w : World) (h : PC w a p l) :
    Calls Tryz.prog 57 #[.pointer (some ⟨a, 0, none⟩), .int .i64 b] w fun e w' => e = .returned (.int .i64 (if b < p then 5 else 0)) ∧ PC w' a (if b < p then p else b) l ∧ Fb a w w' := by
  have c0 := h.c0
  have f0 := h.free 0
  by_cases hlt : b < p
  · rw [if_pos hlt, if_pos hlt]
    have HP := Lib.hid h
    clear h
    go_enter Tryz.func57, Tryz.ntmps57
    go_wp2
    go_ret
    exact ⟨rfl, HP.out, Fb.same⟩
  · rw [if_neg hlt, if_neg hlt]
    have HP := Lib.hid (h.prom b)
    clear h
    go_enter Tryz.func57, Tryz.ntmps57
    go_wp2
    go_ret
    exact ⟨rfl, HP.out, Fb.same.set 0 _⟩
theorem promised_any (a : Nat) (p : Int) (l : List V) (w : World) (h : PC w a p l) :
    Calls Tryz.prog 56 #[.pointer (some ⟨a, 0, none⟩)] w fun e w' => e = .returned (.int .i64 p) ∧ w = w' := by
  have c0 := h.c0
  clear h
  go_enter Tryz.func56, Tryz.ntmps56
  go_wp2
  go_ret
  exact ⟨rfl, rfl⟩

set_option maxRecDepth 100000 in
theorem wrong_any (v : V) (w : World) :
    Calls Tryz.prog 77 #[v.val] w fun e w' => e = .returned (.int .i64 (wrongE v)) ∧ Below w.heap.size w w' := by
  have HB := Lib.hid (show Below w.heap.size w (w.alloc (.cells v.cells 75)) from (Below.refl _ _).alloc (Nat.le_refl _) _)
  obtain ⟨s, b, x⟩ := v
  have HI := Lib.hid (isB_any b)
  obtain ⟨r, hr⟩ : ∃ r, decide (isB b) = r := ⟨_, rfl⟩
  rw [hr] at HI
  by_cases h0 : s < 0
  · have e : wrongE ⟨s, b, x⟩ = 1 := by unfold wrongE; rw [if_neg (fun h => by have := h.1; simp at this; omega)]
    rw [e]
    go_enter Tryz.func77, Tryz.ntmps77
    go_wp2
    go_ret
    exact ⟨rfl, HB.out⟩
  by_cases h1 : 4096 ≤ s
  · have e : wrongE ⟨s, b, x⟩ = 1 := by unfold wrongE; rw [if_neg (fun h => by have := h.2.1; simp at this; omega)]
    rw [e]
    go_enter Tryz.func77, Tryz.ntmps77
    go_wp2
    go_ret
    exact ⟨rfl, HB.out⟩
  cases r with
  | false =>
    have e : wrongE ⟨s, b, x⟩ = 1 := by unfold wrongE; rw [if_neg (fun h => of_decide_eq_false hr h.2.2)]
    rw [e]
    clear hr
    go_enter Tryz.func77, Tryz.ntmps77
    go_wp2_with (go_at_call 55; refine (HI.out _).mono ?_; rintro e w' ⟨rfl, rfl⟩)
    go_ret
    exact ⟨rfl, HB.out⟩
  | true =>
    by_cases h2 : 1024 < x.size
    · have e : wrongE ⟨s, b, x⟩ = 11 := by unfold wrongE; rw [if_pos ⟨by show 0 ≤ s; omega, by show s < 4096; omega, of_decide_eq_true hr⟩, if_pos h2]
      rw [e]
      have h2I : (1024 : Int) < (x.size : Int) := by omega
      clear hr
      go_enter Tryz.func77, Tryz.ntmps77
      go_wp2_with (go_at_call 55; refine (HI.out _).mono ?_; rintro e w' ⟨rfl, rfl⟩)
      go_ret
      exact ⟨rfl, HB.out⟩
    · have e : wrongE ⟨s, b, x⟩ = 0 := by unfold wrongE; rw [if_pos ⟨by show 0 ≤ s; omega, by show s < 4096; omega, of_decide_eq_true hr⟩, if_neg h2]
      rw [e]
      have h2I : ¬ (1024 : Int) < (x.size : Int) := by omega
      clear hr
      go_enter Tryz.func77, Tryz.ntmps77
      go_wp2_with (go_at_call 55; refine (HI.out _).mono ?_; rintro e w' ⟨rfl, rfl⟩)
      go_ret
      exact ⟨rfl, HB.out⟩

theorem clone_any (s : ByteArray) (w : World) (h : s.size ≤ 281474976710656) :
    Calls Tryz.prog 60 #[.string s] w fun e w' => e = .returned (.string s) ∧ Below w.heap.size w w' := by
  have HC := Lib.hid (show Calls Tryz.prog 80 #[.string s] w _ from Any.stringslite_Clone cloneA s w h)
  go_enter Tryz.func60, Tryz.ntmps60
  go_wp2_with (go_at_call 80; refine HC.out.mono ?_; rintro e w' ⟨rfl, hb⟩)
  go_ret
  exact ⟨rfl, hb⟩

set_option maxRecDepth 100000 in
theorem vote_any (a : Nat) (p : Int) (l : List V) (v : V) (w : World) (h : PC w a p l) (hs : Srt 0 l) (h0 : 0 ≤ v.s) (h1 : v.s < 4096) (hx : v.x.size ≤ 281474976710656) :
    Calls Tryz.prog 78 #[.pointer (some ⟨a, 0, none⟩), v.val] w fun e w' => e = .returned (.tuple #[]) ∧ PC w' a p (ins v l) ∧ Fb a w w' := by
  have hba : Below w.heap.size w (w.alloc (.cells v.cells 75)) := (Below.refl _ _).alloc (Nat.le_refl _) _
  have HP := Lib.hid (h.below hba)
  have HB := Lib.hid hba
  have HV := Lib.hid (AV.fresh 75 w v)
  have HC := Lib.hid (fun W => clone_any v.x W hx)
  have HS := Lib.hid hs
  have hal := h.lt
  clear h hs hba
  obtain ⟨s, b, x⟩ := v
  go_enter Tryz.func78, Tryz.ntmps78
  go_wp2_with fail
  go_at_call 60
  refine (HC.out _).mono ?_
  rintro e w1 ⟨rfl, hb1⟩
  have HP1 := Lib.hid (HP.out.below hb1)
  have HV1 := Lib.hid (HV.out.below hb1)
  have HB1 := Lib.hid (HB.out.trans (hb1.mono HB.out.size))
  clear HP HV HB HC hb1
  generalize hz : w.heap.size = z at HV1 HB1 hal ⊢
  obtain ⟨c0, c1, c2⟩ := HV1.out.all
  have f2 := HV1.out.free 2
  have ea : ∀ k, (w1.setCell ⟨z, 2, none⟩ (.string x)).heap[k]? = w1.heap[k]? := fun k => by
    by_cases hk : k = z
    · subst hk
      have hv := show w1.heap[k]? = _ from HV1.out
      rw [heap_setCell hv, hv]
      simp [V.cells]
    · exact Below.heap_setCell _ _ _ _ hk
  have hz1 := HB1.out.size
  have hp2 : PC (w1.setCell ⟨z, 2, none⟩ (.string x)) a p l := HP1.out.kept (ea a) fun k _ _ => ea k
  have hv2 : AV 75 (w1.setCell ⟨z, 2, none⟩ (.string x)) z ⟨s, b, x⟩ := HV1.out.of_block (ea z)
  have hb2 : Below z w (w1.setCell ⟨z, 2, none⟩ (.string x)) := ⟨HB1.out.os, HB1.out.tape, HB1.out.output, by simp [World.setCell]; exact hz1, fun k hk => (ea k).trans (HB1.out.block k hk)⟩
  clear HP1 HB1 ea
  go_wp2_with fail
  generalize w1.setCell ⟨z, 2, none⟩ (.string x) = w2 at hp2 hv2 hb2 ⊢
  clear c0 c1 c2 f2 HV1
  obtain ⟨d0, -, -⟩ := hv2.all
  have fa := hp2.free (1 + s.toNat)
  obtain ⟨y, cy, -⟩ := hp2.slot s.toNat (by show s.toNat < 4096; have h1' : s < 4096 := h1; have h0' : 0 ≤ s := h0; omega)
  have HE := Lib.hid (hp2.vote HS.out hv2 h0 h1)
  have HB := Lib.hid hb2
  clear hp2 hv2 hb2
  have hs0 : 0 ≤ s := h0
  have hs1 : s < 4096 := h1
  go_region
  all_goals
    go_end0
    exact ⟨rfl, HE.out, (Fb.set (b := a) (Fb.of_below (hz ▸ HB.out)) _ _).drew⟩
end Go.Proofs.YtkcbmkedhipgeaaGreatDoor

namespace Go.Proofs.YtkcbmkedhipgeaaGreatDoor
open Go.RowKit

theorem below_grown {B : Nat} {w0 w w' : World} {row : Option Nat} (h : Below B w0 w) (hg : w.grownBy w' row) (hB : B ≤ w.heap.size) (hr : ∀ k, row = some k → B ≤ k) : Below B w0 w' :=
  ⟨hg.os.trans h.os, hg.tape.trans h.tape, hg.output.trans h.output, Nat.le_trans h.size hg.size, fun k hk => (hg.block k (by omega) (fun e => by have := hr k e.symm; omega)).trans (h.block k hk)⟩
theorem sub_len (l : List V) (lo hi : Int) : (sub l lo hi).length ≤ l.length := List.length_filter_le _ _

set_option maxRecDepth 100000 in
set_option maxHeartbeats 2000000 in
theorem since_any (a : Nat) (f p : Int) (l : List V) (w : World) (h : PC w a p l) (hs : Srt 0 l) :
    Calls Tryz.prog 58 #[.pointer (some ⟨a, 0, none⟩), .int .i64 f] w fun e w' => ∃ v, e = .returned v ∧ OwnsV 75 w' w.heap.size v (from_ l f) ∧ Below w.heap.size w w' := by
  obtain ⟨i0, hi0, hz0, hz1, hz2⟩ := info_parts infoP
  have hl := hs.len (by omega)
  have HP := Lib.hid h
  have HS := Lib.hid hs
  rw [← from_sub hs f]
  obtain ⟨m, hm⟩ : ∃ m : Nat, min (max f 0) 4096 = (m : Int) := ⟨(min (max f 0) 4096).toNat, by omega⟩
  have hm1 : m ≤ 4096 := by omega
  have hal := h.lt
  have HM := Lib.hid hm
  clear h hs
  rw [hm]
  have g0 : 0 ≤ min (max f 0) 4096 := by omega
  have g1 : min (max f 0) 4096 ≤ 4096 := by omega
  clear hm
  by_cases h96 : m = 4096
  · subst h96
    have g2 : min (max f 0) 4096 = 4096 := HM.out
    have he : sub l ((4096 : Nat) : Int) 4096 = [] := sub_none fun v _ => by omega
    rw [he]
    clear g0 g1
    go_enter Tryz.func58, Tryz.ntmps58
    go_wp2
    refine wp_loop_rounds 1 ?_
    rw [rounds_succ]
    go_wp2
    go_ret
    exact ⟨_, rfl, OwnsV.nil _ _ _, Below.refl _ _⟩
  have g2 : ¬ min (max f 0) 4096 = 4096 := by have := HM.out; omega
  go_enter Tryz.func58, Tryz.ntmps58
  go_wp2
  clear g0 g1 g2
  rw [HM.out, Int.toNat_natCast]
  go_loopw [5, 16] (fun v iv wr => ∃ k : Nat, k ≤ 4096 - m ∧ iv = .int .i64 k ∧ OwnsV 75 wr w.heap.size v (sub l m ((m + k : Nat) : Int)) ∧ Below w.heap.size w wr) (fun _ iv _ => (4096 - m) - (RowKit.intOf iv).toNat)
  case atStart => exact ⟨0, Nat.zero_le _, rfl, by rw [sub_none (fun v _ => by omega)]; exact OwnsV.nil _ _ _, Below.refl _ _⟩
  case round =>
    obtain ⟨k, hk, rfl, ho, hb⟩ := hrel
    have HO := Lib.hid ho
    have HB := Lib.hid hb
    clear ho hb
    by_cases hlt : k < 4096 - m
    · have hkI : (k : Int) < ((4096 - m : Nat) : Int) := by omega
      have hk0 : (0 : Int) ≤ (k : Int) := by omega
      obtain ⟨x, cx, hxn, hxs⟩ := (HP.out.below HB.out).slot (m + k) (by omega)
      rw [show 1 + (m + k) = 1 + m + k by omega] at cx
      have hmore := sub_more HS.out (m : Int) ((m + k : Nat) : Int) (by omega)
      rw [show ((m + k : Nat) : Int) + 1 = ((m + (k + 1) : Nat) : Int) by omega] at hmore
      cases hv : lk l ((m + k : Nat) : Int) with
      | none =>
        obtain rfl := hxn hv
        rw [hv, Option.toList_none, List.append_nil] at hmore
        have HO2 := Lib.hid (show OwnsV 75 wr w.heap.size _ (sub l m ((m + (k + 1) : Nat) : Int)) by rw [hmore]; exact HO.out)
        clear hxs hxn hv hmore HO
        go_wp2
        go_roundw
        case rel => exact ⟨k + 1, by omega, by go_num, HO2.out, HB.out⟩
        case measure => simp only [RowKit.intOf]; omega
      | some v =>
        obtain ⟨z, rfl, hz, hav⟩ := hxs v hv
        obtain ⟨c0, c1, c2⟩ := hav.all
        rw [hv, Option.toList_some] at hmore
        have hle := sub_len l m ((m + k : Nat) : Int)
        have HW := Lib.hid (vnews1 wr v 75)
        have HBA := Lib.hid (show Below wr.heap.size wr (wr.alloc (.cells v.cells 75)) from (Below.refl _ _).alloc (Nat.le_refl _) _)
        have HMo := Lib.hid hmore
        clear hxs hxn hv hmore hav
        go_wp2_with (at_builtin; refine wpList_append_lies _ rfl (.tmp 22) (.tmp 26) 90 rfl w.heap.size 75 i0 _ 3 32 Tryz.underlying90 hi0 hz0 hz1 hz2 rfl (by decide) _ _ _ rfl (HO.out.below HBA.out) ⟨wr.heap.size, 0, none⟩ 1 1 (vflat [v]) rfl (by simp [vflat]) HW.out (vflat_oneCell _) (by decide) (by unfold maxLen; omega) (by omega) (by have := HB.out.size; simp; omega) (wr.heap.size + 1) (by simp) ?_; intro g' cap w3 hown hgrow _ _; (have K2 := Lib.hid (below_grown (HB.out.trans (HBA.out.mono HB.out.size)) hgrow (by have := HB.out.size; simp; omega) (fun q hq => (HO.out.lt hq).1))); have K3 := Lib.hid (OwnsV.snoc hown); clear hown hgrow)
        go_roundw
        case rel => exact ⟨k + 1, by omega, by go_num, by rw [HMo.out]; simpa using K3.out, K2.out⟩
        case measure => simp only [RowKit.intOf]; omega
    · obtain rfl : k = 4096 - m := by omega
      have hlI : ¬ ((4096 - m : Nat) : Int) < ((4096 - m : Nat) : Int) := by omega
      have e : ((m + (4096 - m) : Nat) : Int) = 4096 := by omega
      rw [e] at HO
      go_wp2
      go_ret
      exact ⟨_, rfl, HO.out, HB.out⟩
end Go.Proofs.YtkcbmkedhipgeaaGreatDoor
