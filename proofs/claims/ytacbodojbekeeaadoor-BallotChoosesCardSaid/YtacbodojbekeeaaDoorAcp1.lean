/-
  The little functions (package ballot), by contracts: isBallot, promise, wrong, vote, Promised; a copied text.
-/
import Derived.Test.YtacbodojbekeeaaDoorMem
import Derived.Test.YtacbodojbekeeaaDoorLayClone
namespace Go.Proofs.YtacbodojbekeeaaDoor
open Go.RowKit

theorem isB_any (b : Int) (w : World) : Calls Tryd.prog 30 #[.int .i64 b] w fun e w' => e = .returned (.bool (decide (isB b))) ∧ w = w' := by
  by_cases h1 : 1 ≤ b
  · by_cases h2 : b ≤ 1099511627776
    · rw [decide_eq_true (show isB b from ⟨h1, h2⟩)]
      go_enter Tryd.func30, Tryd.ntmps30
      go_wp2
      go_ret
      exact ⟨rfl, rfl⟩
    · rw [decide_eq_false (fun h : isB b => h2 h.2)]
      go_enter Tryd.func30, Tryd.ntmps30
      go_wp2
      go_ret
      exact ⟨rfl, rfl⟩
  · rw [decide_eq_false (fun h : isB b => h1 h.1)]
    go_enter Tryd.func30, Tryd.ntmps30
    go_wp2
    go_ret
    exact ⟨rfl, rfl⟩
theorem risB_any (b : Int) (w : World) : Calls Tryd.prog 33 #[.int .i64 b] w fun e w' => e = .returned (.bool (decide (isB b))) ∧ w = w' := by
  by_cases h1 : 1 ≤ b
  · by_cases h2 : b ≤ 1099511627776
    · rw [decide_eq_true (show isB b from ⟨h1, h2⟩)]
      go_enter Tryd.func33, Tryd.ntmps33
      go_wp2
      go_ret
      exact ⟨rfl, rfl⟩
    · rw [decide_eq_false (fun h : isB b => h2 h.2)]
      go_enter Tryd.func33, Tryd.ntmps33
      go_wp2
      go_ret
      exact ⟨rfl, rfl⟩
  · rw [decide_eq_false (fun h : isB b => h1 h.1)]
    go_enter Tryd.func33, Tryd.ntmps33
    go_wp2
    go_ret
    exact ⟨rfl, rfl⟩

theorem promise_any (a : Nat) (b p : Int) (l : List V) (w : World) (h : PC w a p l) :
    Calls Tryd.prog 31 #[.pointer (some ⟨a, 0, none⟩), .int .i64 b] w fun e w' => e = .returned (.int .i64 (if b < p then 5 else 0)) ∧ PC w' a (if b < p then p else b) l ∧ Fb a w w' := by
  have c0 := h.c0
  have f0 := h.free 0
  by_cases hlt : b < p
  · rw [if_pos hlt, if_pos hlt]
    have HP := Lib.hid h
    clear h
    go_enter Tryd.func31, Tryd.ntmps31
    go_wp2
    go_ret
    exact ⟨rfl, HP.out, Fb.same⟩
  · rw [if_neg hlt, if_neg hlt]
    have HP := Lib.hid (h.prom b)
    clear h
    go_enter Tryd.func31, Tryd.ntmps31
    go_wp2
    go_ret
    exact ⟨rfl, HP.out, Fb.same.set 0 _⟩
theorem promised_any (a : Nat) (p : Int) (l : List V) (w : World) (h : PC w a p l) :
    Calls Tryd.prog 12 #[.pointer (some ⟨a, 0, none⟩)] w fun e w' => e = .returned (.int .i64 p) ∧ w = w' := by
  have c0 := h.c0
  clear h
  go_enter Tryd.func12, Tryd.ntmps12
  go_wp2
  go_ret
  exact ⟨rfl, rfl⟩

set_option maxRecDepth 100000 in
theorem wrong_any (v : V) (w : World) :
    Calls Tryd.prog 34 #[v.val] w fun e w' => e = .returned (.int .i64 (wrongE v)) ∧ Below w.heap.size w w' := by
  have HB := Lib.hid (show Below w.heap.size w (w.alloc (.cells v.cells 32)) from (Below.refl _ _).alloc (Nat.le_refl _) _)
  obtain ⟨s, b, x⟩ := v
  have HI := Lib.hid (isB_any b)
  obtain ⟨r, hr⟩ : ∃ r, decide (isB b) = r := ⟨_, rfl⟩
  rw [hr] at HI
  by_cases h0 : s < 0
  · have e : wrongE ⟨s, b, x⟩ = 1 := by unfold wrongE; rw [if_neg (fun h => by have := h.1; simp at this; omega)]
    rw [e]
    go_enter Tryd.func34, Tryd.ntmps34
    go_wp2
    go_ret
    exact ⟨rfl, HB.out⟩
  by_cases h1 : 4096 ≤ s
  · have e : wrongE ⟨s, b, x⟩ = 1 := by unfold wrongE; rw [if_neg (fun h => by have := h.2.1; simp at this; omega)]
    rw [e]
    go_enter Tryd.func34, Tryd.ntmps34
    go_wp2
    go_ret
    exact ⟨rfl, HB.out⟩
  cases r with
  | false =>
    have e : wrongE ⟨s, b, x⟩ = 1 := by unfold wrongE; rw [if_neg (fun h => of_decide_eq_false hr h.2.2)]
    rw [e]
    clear hr
    go_enter Tryd.func34, Tryd.ntmps34
    go_wp2_with (go_at_call 30; refine (HI.out _).mono ?_; rintro e w' ⟨rfl, rfl⟩)
    go_ret
    exact ⟨rfl, HB.out⟩
  | true =>
    by_cases h2 : 1024 < x.size
    · have e : wrongE ⟨s, b, x⟩ = 11 := by unfold wrongE; rw [if_pos ⟨by show 0 ≤ s; omega, by show s < 4096; omega, of_decide_eq_true hr⟩, if_pos h2]
      rw [e]
      have h2I : (1024 : Int) < (x.size : Int) := by omega
      clear hr
      go_enter Tryd.func34, Tryd.ntmps34
      go_wp2_with (go_at_call 30; refine (HI.out _).mono ?_; rintro e w' ⟨rfl, rfl⟩)
      go_ret
      exact ⟨rfl, HB.out⟩
    · have e : wrongE ⟨s, b, x⟩ = 0 := by unfold wrongE; rw [if_pos ⟨by show 0 ≤ s; omega, by show s < 4096; omega, of_decide_eq_true hr⟩, if_neg h2]
      rw [e]
      have h2I : ¬ (1024 : Int) < (x.size : Int) := by omega
      clear hr
      go_enter Tryd.func34, Tryd.ntmps34
      go_wp2_with (go_at_call 30; refine (HI.out _).mono ?_; rintro e w' ⟨rfl, rfl⟩)
      go_ret
      exact ⟨rfl, HB.out⟩

theorem clone_any (s : ByteArray) (w : World) (h : s.size ≤ 281474976710656) :
    Calls Tryd.prog 53 #[.string s] w fun e w' => e = .returned (.string s) ∧ Below w.heap.size w w' := by
  have HC := Lib.hid (show Calls Tryd.prog 67 #[.string s] w _ from Any.stringslite_Clone cloneA s w h)
  go_enter Tryd.func53, Tryd.ntmps53
  go_wp2_with (go_at_call 67; refine HC.out.mono ?_; rintro e w' ⟨rfl, hb⟩)
  go_ret
  exact ⟨rfl, hb⟩

set_option maxRecDepth 100000 in
theorem vote_any (a : Nat) (p : Int) (l : List V) (v : V) (w : World) (h : PC w a p l) (hs : Srt 0 l) (h0 : 0 ≤ v.s) (h1 : v.s < 4096) (hx : v.x.size ≤ 281474976710656) :
    Calls Tryd.prog 35 #[.pointer (some ⟨a, 0, none⟩), v.val] w fun e w' => e = .returned (.tuple #[]) ∧ PC w' a p (ins v l) ∧ Fb a w w' := by
  have hba : Below w.heap.size w (w.alloc (.cells v.cells 32)) := (Below.refl _ _).alloc (Nat.le_refl _) _
  have HP := Lib.hid (h.below hba)
  have HB := Lib.hid hba
  have HV := Lib.hid (AV.fresh 32 w v)
  have HC := Lib.hid (fun W => clone_any v.x W hx)
  have HS := Lib.hid hs
  have hal := h.lt
  clear h hs hba
  obtain ⟨s, b, x⟩ := v
  go_enter Tryd.func35, Tryd.ntmps35
  go_wp2_with fail
  go_at_call 53
  refine (HC.out _).mono ?_
  rintro e w1 ⟨rfl, hb1⟩
  have HP1 := Lib.hid (HP.out.below hb1)
  have HV1 := Lib.hid (HV.out.below hb1)
  have HB1 := Lib.hid (HB.out.trans (hb1.mono HB.out.size))
  clear HP HV HB HC hb1
  generalize hz : w.heap.size = z at HV1 HB1 hal ⊢
  obtain ⟨c0, c1, c2⟩ := HV1.out.all
  have f2 := HV1.out.free 2
  have ea : ∀ k, (w1.setCell ⟨z, 2, none⟩ (.string x)).heap[k]? = w1.heap[k]? := fun k => by
    by_cases hk : k = z
    · subst hk
      have hv := show w1.heap[k]? = _ from HV1.out
      rw [heap_setCell hv, hv]
      simp [V.cells]
    · exact Below.heap_setCell _ _ _ _ hk
  have hz1 := HB1.out.size
  have hp2 : PC (w1.setCell ⟨z, 2, none⟩ (.string x)) a p l := HP1.out.kept (ea a) fun k _ _ => ea k
  have hv2 : AV 32 (w1.setCell ⟨z, 2, none⟩ (.string x)) z ⟨s, b, x⟩ := HV1.out.of_block (ea z)
  have hb2 : Below z w (w1.setCell ⟨z, 2, none⟩ (.string x)) := ⟨HB1.out.os, HB1.out.tape, HB1.out.output, by simp [World.setCell]; exact hz1, fun k hk => (ea k).trans (HB1.out.block k hk)⟩
  clear HP1 HB1 ea
  go_wp2_with fail
  generalize w1.setCell ⟨z, 2, none⟩ (.string x) = w2 at hp2 hv2 hb2 ⊢
  clear c0 c1 c2 f2 HV1
  obtain ⟨d0, -, -⟩ := hv2.all
  have fa := hp2.free (1 + s.toNat)
  obtain ⟨y, cy, -⟩ := hp2.slot s.toNat (by show s.toNat < 4096; have h1' : s < 4096 := h1; have h0' : 0 ≤ s := h0; omega)
  have HE := Lib.hid (hp2.vote HS.out hv2 h0 h1)
  have HB := Lib.hid hb2
  clear hp2 hv2 hb2
  have hs0 : 0 ≤ s := h0
  have hs1 : s < 4096 := h1
  go_region
  all_goals
    go_end0
    exact ⟨rfl, HE.out, (Fb.set (b := a) (Fb.of_below (hz ▸ HB.out)) _ _).drew⟩
end Go.Proofs.YtacbodojbekeeaaDoor
