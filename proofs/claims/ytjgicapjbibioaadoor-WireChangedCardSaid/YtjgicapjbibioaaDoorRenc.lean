/-
  The document's own Check and Encode of layer 3 (weirkeepref03), by contracts.
-/
import Derived.Test.YtjgicapjbibioaaDoorEnc
import Derived.Test.YtjgicapjbibioaaDoorRefText
namespace Go.Proofs.YtjgicapjbibioaaDoor
open Go.RowKit

def inB (n k : Int) : Bool := decide (0 ≤ n) && decide (n ≤ k)
theorem inB_iff {n k : Int} : inB n k = true ↔ 0 ≤ n ∧ n ≤ k := by simp [inB]
theorem in_any (n k : Int) (w : World) :
    Calls Tryd.prog 45 #[.int .i64 n, .int .i64 k] w fun e w' => e = .returned (.bool (inB n k)) ∧ w = w' := by
  by_cases h0 : 0 ≤ n
  · by_cases h1 : n ≤ k
    · have e : inB n k = true := inB_iff.2 ⟨h0, h1⟩
      rw [e]
      go_enter Tryd.func45, Tryd.ntmps45
      go_wp2
      go_ret
      exact ⟨rfl, rfl⟩
    · have e : inB n k = false := by simp [inB]; omega
      rw [e]
      go_enter Tryd.func45, Tryd.ntmps45
      go_wp2
      go_ret
      exact ⟨rfl, rfl⟩
  · have e : inB n k = false := by simp [inB]; omega
    rw [e]
    go_enter Tryd.func45, Tryd.ntmps45
    go_wp2
    go_ret
    exact ⟨rfl, rfl⟩
theorem M.chk_in (m : M) : m.chk = if inB m.kind 255 = true ∧ inB m.src 7 = true ∧ inB m.dst 7 = true ∧ inB m.epoch 1099511627776 = true ∧ inB m.seq 1099511627776 = true ∧ inB m.off 256 = true ∧ inB m.len 256 = true then (if m.data.size ≤ 1024 then 0 else 11) else 1 := by
  unfold M.chk
  simp only [inB_iff]
  congr 1
  apply propext
  constructor
  · intro h; refine ⟨?_, ?_, ?_, ?_, ?_, ?_, ?_⟩ <;> omega
  · intro h; omega
theorem rchk_bad0 (m : M) (w : World)  (h : inB m.kind 255 = false) :
    Calls Tryd.prog 23 #[m.val] w fun e w' => e = .returned (.int .i64 1) ∧ Below w.heap.size w w' := by
  go_enter Tryd.func23, Tryd.ntmps23
  go_wp2_with (go_at_call 45; refine (in_any _ _ _).mono ?_; rintro e w' ⟨rfl, rfl⟩)
  go_ret
  exact ⟨rfl, by go_grown⟩
theorem rchk_bad1 (m : M) (w : World) (h0 : inB m.kind 255 = true) (h : inB m.src 7 = false) :
    Calls Tryd.prog 23 #[m.val] w fun e w' => e = .returned (.int .i64 1) ∧ Below w.heap.size w w' := by
  go_enter Tryd.func23, Tryd.ntmps23
  go_wp2_with (go_at_call 45; refine (in_any _ _ _).mono ?_; rintro e w' ⟨rfl, rfl⟩)
  go_ret
  exact ⟨rfl, by go_grown⟩
theorem rchk_bad2 (m : M) (w : World) (h0 : inB m.kind 255 = true) (h1 : inB m.src 7 = true) (h : inB m.dst 7 = false) :
    Calls Tryd.prog 23 #[m.val] w fun e w' => e = .returned (.int .i64 1) ∧ Below w.heap.size w w' := by
  go_enter Tryd.func23, Tryd.ntmps23
  go_wp2_with (go_at_call 45; refine (in_any _ _ _).mono ?_; rintro e w' ⟨rfl, rfl⟩)
  go_ret
  exact ⟨rfl, by go_grown⟩
theorem rchk_bad3 (m : M) (w : World) (h0 : inB m.kind 255 = true) (h1 : inB m.src 7 = true) (h2 : inB m.dst 7 = true) (h : inB m.epoch 1099511627776 = false) :
    Calls Tryd.prog 23 #[m.val] w fun e w' => e = .returned (.int .i64 1) ∧ Below w.heap.size w w' := by
  go_enter Tryd.func23, Tryd.ntmps23
  go_wp2_with (go_at_call 45; refine (in_any _ _ _).mono ?_; rintro e w' ⟨rfl, rfl⟩)
  go_ret
  exact ⟨rfl, by go_grown⟩
theorem rchk_bad4 (m : M) (w : World) (h0 : inB m.kind 255 = true) (h1 : inB m.src 7 = true) (h2 : inB m.dst 7 = true) (h3 : inB m.epoch 1099511627776 = true) (h : inB m.seq 1099511627776 = false) :
    Calls Tryd.prog 23 #[m.val] w fun e w' => e = .returned (.int .i64 1) ∧ Below w.heap.size w w' := by
  go_enter Tryd.func23, Tryd.ntmps23
  go_wp2_with (go_at_call 45; refine (in_any _ _ _).mono ?_; rintro e w' ⟨rfl, rfl⟩)
  go_ret
  exact ⟨rfl, by go_grown⟩
theorem rchk_bad5 (m : M) (w : World) (h0 : inB m.kind 255 = true) (h1 : inB m.src 7 = true) (h2 : inB m.dst 7 = true) (h3 : inB m.epoch 1099511627776 = true) (h4 : inB m.seq 1099511627776 = true) (h : inB m.off 256 = false) :
    Calls Tryd.prog 23 #[m.val] w fun e w' => e = .returned (.int .i64 1) ∧ Below w.heap.size w w' := by
  go_enter Tryd.func23, Tryd.ntmps23
  go_wp2_with (go_at_call 45; refine (in_any _ _ _).mono ?_; rintro e w' ⟨rfl, rfl⟩)
  go_ret
  exact ⟨rfl, by go_grown⟩
theorem rchk_bad6 (m : M) (w : World) (h0 : inB m.kind 255 = true) (h1 : inB m.src 7 = true) (h2 : inB m.dst 7 = true) (h3 : inB m.epoch 1099511627776 = true) (h4 : inB m.seq 1099511627776 = true) (h5 : inB m.off 256 = true) (h : inB m.len 256 = false) :
    Calls Tryd.prog 23 #[m.val] w fun e w' => e = .returned (.int .i64 1) ∧ Below w.heap.size w w' := by
  go_enter Tryd.func23, Tryd.ntmps23
  go_wp2_with (go_at_call 45; refine (in_any _ _ _).mono ?_; rintro e w' ⟨rfl, rfl⟩)
  go_ret
  exact ⟨rfl, by go_grown⟩
theorem rchk_ok (m : M) (w : World) (h0 : inB m.kind 255 = true) (h1 : inB m.src 7 = true) (h2 : inB m.dst 7 = true) (h3 : inB m.epoch 1099511627776 = true) (h4 : inB m.seq 1099511627776 = true) (h5 : inB m.off 256 = true) (h6 : inB m.len 256 = true) (hs : m.data.size ≤ 1024) :
    Calls Tryd.prog 23 #[m.val] w fun e w' => e = .returned (.int .i64 0) ∧ Below w.heap.size w w' := by
  have hsI : (m.data.size : Int) ≤ 1024 := by omega
  go_enter Tryd.func23, Tryd.ntmps23
  go_wp2_with (go_at_call 45; refine (in_any _ _ _).mono ?_; rintro e w' ⟨rfl, rfl⟩)
  go_ret
  exact ⟨rfl, by go_grown⟩
theorem rchk_long (m : M) (w : World) (h0 : inB m.kind 255 = true) (h1 : inB m.src 7 = true) (h2 : inB m.dst 7 = true) (h3 : inB m.epoch 1099511627776 = true) (h4 : inB m.seq 1099511627776 = true) (h5 : inB m.off 256 = true) (h6 : inB m.len 256 = true) (hs : ¬ m.data.size ≤ 1024) :
    Calls Tryd.prog 23 #[m.val] w fun e w' => e = .returned (.int .i64 11) ∧ Below w.heap.size w w' := by
  have hsI : (1024 : Int) < (m.data.size : Int) := by omega
  go_enter Tryd.func23, Tryd.ntmps23
  go_wp2_with (go_at_call 45; refine (in_any _ _ _).mono ?_; rintro e w' ⟨rfl, rfl⟩)
  go_ret
  exact ⟨rfl, by go_grown⟩
theorem rcheck_any (m : M) (w : World) :
    Calls Tryd.prog 23 #[m.val] w fun e w' => e = .returned (.int .i64 m.chk) ∧ Below w.heap.size w w' := by
  by_cases h0 : inB m.kind 255 = true
  case neg =>
    have hc : m.chk = 1 := by rw [m.chk_in, if_neg]; intro h; exact h0 h.1
    rw [hc]; exact rchk_bad0 m w  (by simpa using h0)
  by_cases h1 : inB m.src 7 = true
  case neg =>
    have hc : m.chk = 1 := by rw [m.chk_in, if_neg]; intro h; exact h1 h.2.1
    rw [hc]; exact rchk_bad1 m w h0 (by simpa using h1)
  by_cases h2 : inB m.dst 7 = true
  case neg =>
    have hc : m.chk = 1 := by rw [m.chk_in, if_neg]; intro h; exact h2 h.2.2.1
    rw [hc]; exact rchk_bad2 m w h0 h1 (by simpa using h2)
  by_cases h3 : inB m.epoch 1099511627776 = true
  case neg =>
    have hc : m.chk = 1 := by rw [m.chk_in, if_neg]; intro h; exact h3 h.2.2.2.1
    rw [hc]; exact rchk_bad3 m w h0 h1 h2 (by simpa using h3)
  by_cases h4 : inB m.seq 1099511627776 = true
  case neg =>
    have hc : m.chk = 1 := by rw [m.chk_in, if_neg]; intro h; exact h4 h.2.2.2.2.1
    rw [hc]; exact rchk_bad4 m w h0 h1 h2 h3 (by simpa using h4)
  by_cases h5 : inB m.off 256 = true
  case neg =>
    have hc : m.chk = 1 := by rw [m.chk_in, if_neg]; intro h; exact h5 h.2.2.2.2.2.1
    rw [hc]; exact rchk_bad5 m w h0 h1 h2 h3 h4 (by simpa using h5)
  by_cases h6 : inB m.len 256 = true
  case neg =>
    have hc : m.chk = 1 := by rw [m.chk_in, if_neg]; intro h; exact h6 h.2.2.2.2.2.2
    rw [hc]; exact rchk_bad6 m w h0 h1 h2 h3 h4 h5 (by simpa using h6)
  by_cases hs : m.data.size ≤ 1024
  · have hc : m.chk = 0 := by rw [m.chk_in, if_pos ⟨h0, h1, h2, h3, h4, h5, h6⟩, if_pos hs]
    rw [hc]; exact rchk_ok m w h0 h1 h2 h3 h4 h5 h6 hs
  · have hc : m.chk = 11 := by rw [m.chk_in, if_pos ⟨h0, h1, h2, h3, h4, h5, h6⟩, if_neg hs]
    rw [hc]; exact rchk_long m w h0 h1 h2 h3 h4 h5 h6 hs

set_option maxRecDepth 100000 in
theorem rencode_bad (m : M) (w : World) (h : m.chk ≠ 0) :
    Calls Tryd.prog 8 #[m.val] w fun e w' => e = .returned (.tuple #[.string ⟨#[]⟩, .int .i64 m.chk]) ∧ Below w.heap.size w w' := by
  have HB0 := Lib.hid (show Below w.heap.size w (w.alloc (.cells m.cells 23)) from (Below.refl _ _).alloc (Nat.le_refl _) _)
  have hn : (m.chk != 0) = true := by simpa using h
  have hn2 : (m.chk == 0) = false := by simpa using h
  go_enter Tryd.func8, Tryd.ntmps8
  go_wp2_with fail
  go_at_call 23
  refine (rcheck_any m _).mono ?_
  rintro e w1 ⟨rfl, hb1⟩
  have HB1 := Lib.hid (HB0.out.trans (hb1.mono HB0.out.size))
  clear HB0 hb1
  go_wp2
  go_ret2
  exact ⟨rfl, HB1.out⟩

theorem M.pre_succ (m : M) (i : Nat) : m.pre (i + 1) = m.pre i ++ leb (m.fld i) (wid i).toNat := rfl
/-- The document's writer, behind a message. -/
structure Wm (w : World) (B b p : Nat) (m : M) (bs : List Int) : Prop where
  mat : Mat w b m
  wrt : ∃ row, Wrt w p row bs ∧ ∀ g, row = some g → p < g
  hbp : b < p
theorem Wm.num {w : World} {B b p : Nat} {m : M} {i : Nat} (hw : Wm w B b p m (m.pre i)) (hi : i < 7) (hok : m.okN i) (hpB : B ≤ b) (K : Int) (hK : wid i = K) (N : Int) (hN : m.fld i = N) :
    Calls Tryd.prog 24 #[.pointer (some ⟨p, 0, none⟩), .int .i64 N, .int .i64 K] w fun e w' => ∃ v, e = .returned v ∧ Wm w' B b p m (m.pre (i + 1)) ∧ Below B w w' := by
  obtain ⟨hM, ⟨row, hW, hr⟩, hbp⟩ := hw
  subst hK hN
  have hl := m.pre_len i
  refine (refnum_ok p row (m.pre i) (m.fld i) (wid i) w (m.fits i hi hok) hW (by omega)).mono ?_
  rintro e w' ⟨rfl, row', hW', hR, hF⟩
  have hpl := hW.lt
  refine ⟨_, rfl, ⟨hM.fr hF (by omega) (fun e => by have := hr _ e.symm; omega), ⟨row', hW', fun g hg => ?_⟩, hbp⟩, (hF.below (by omega) hr).mono (by omega)⟩
  rcases hR with h | ⟨g', h, hge⟩
  · exact hr g (h ▸ hg)
  · rw [h] at hg; injection hg with hg; omega

set_option maxRecDepth 100000 in
set_option maxHeartbeats 4000000 in
theorem rencode_ok (m : M) (w : World) (h : m.chk = 0) :
    Calls Tryd.prog 8 #[m.val] w fun e w' => e = .returned (.tuple #[.string (strOfNums m.bytes ++ four (sumOf (strOfNums m.bytes))), .int .i64 0]) ∧ Below w.heap.size w w' := by
  obtain ⟨hok, hds⟩ := M.ok_all h
  have HOK := Lib.hid hok
  have HB0 := Lib.hid (show Below w.heap.size w (w.alloc (.cells m.cells 23)) from (Below.refl _ _).alloc (Nat.le_refl _) _)
  have HM0 := Lib.hid (Mat.fresh w m 23)
  have hrc := fun W => rcheck_any m W
  simp only [h] at hrc
  have HRC := Lib.hid hrc
  clear hok hrc h
  go_enter Tryd.func8, Tryd.ntmps8
  go_wp2_with fail
  go_at_call 23
  refine (HRC.out _).mono ?_
  rintro e w1 ⟨rfl, hb1⟩
  have HM1 := Lib.hid (HM0.out.below hb1)
  have HB1 := Lib.hid (HB0.out.trans (hb1.mono HB0.out.size))
  clear HB0 HM0 HRC hb1
  have hz1 := HM1.out.lt
  have HWmA := Lib.hid (show Wm (w1.alloc (.cells #[.slice none 0 0] 61)) w.heap.size w.heap.size w1.heap.size m (m.pre 0) from ⟨HM1.out.below ((Below.refl _ _).alloc (Nat.le_refl _) _), ⟨none, ⟨.slice none 0 0, by simp, by simp, World.ownsRow_nil _ _ _ _, rfl⟩, fun g hg => by cases hg⟩, hz1⟩)
  have HB2 := Lib.hid (show Below w.heap.size w (w1.alloc (.cells #[.slice none 0 0] 61)) from HB1.out.alloc (by omega) _)
  have f0 : w1.cell? ⟨w.heap.size, 0, none⟩ = some (.int .i64 m.kind) := HM1.out.1 0 (by omega)
  clear HM1 HB1
  go_wp2_with fail
  generalize w1.alloc (.cells #[.slice none 0 0] 61) = x0 at HWmA HB2 ⊢
  generalize w1.heap.size = p at *
  go_at_call 24
  refine (HWmA.out.num (by omega) (HOK.out 0 (by omega)) (Nat.le_refl _) 1 rfl m.kind rfl).mono ?_
  rintro e x1 ⟨v0, rfl, hw, hb⟩
  have HWmB0 := Lib.hid hw
  have HB3 := Lib.hid (HB2.out.trans hb)
  clear HWmA HB2 hw hb f0
  have f1 := HWmB0.out.mat.1 1 (by omega)
  rw [show m.fld 1 = m.src from rfl] at f1
  go_wp2_with fail
  go_at_call 24
  refine (HWmB0.out.num (by omega) (HOK.out 1 (by omega)) (Nat.le_refl _) 1 rfl m.src rfl).mono ?_
  rintro e x2 ⟨v1, rfl, hw, hb⟩
  have HWmB1 := Lib.hid hw
  have HB4 := Lib.hid (HB3.out.trans hb)
  clear HWmB0 HB3 hw hb f1
  have f2 := HWmB1.out.mat.1 2 (by omega)
  rw [show m.fld 2 = m.dst from rfl] at f2
  go_wp2_with fail
  go_at_call 24
  refine (HWmB1.out.num (by omega) (HOK.out 2 (by omega)) (Nat.le_refl _) 1 rfl m.dst rfl).mono ?_
  rintro e x3 ⟨v2, rfl, hw, hb⟩
  have HWmB2 := Lib.hid hw
  have HB5 := Lib.hid (HB4.out.trans hb)
  clear HWmB1 HB4 hw hb f2
  have f3 := HWmB2.out.mat.1 3 (by omega)
  rw [show m.fld 3 = m.epoch from rfl] at f3
  go_wp2_with fail
  go_at_call 24
  refine (HWmB2.out.num (by omega) (HOK.out 3 (by omega)) (Nat.le_refl _) 8 rfl m.epoch rfl).mono ?_
  rintro e x4 ⟨v3, rfl, hw, hb⟩
  have HWmB3 := Lib.hid hw
  have HB6 := Lib.hid (HB5.out.trans hb)
  clear HWmB2 HB5 hw hb f3
  have f4 := HWmB3.out.mat.1 4 (by omega)
  rw [show m.fld 4 = m.seq from rfl] at f4
  go_wp2_with fail
  go_at_call 24
  refine (HWmB3.out.num (by omega) (HOK.out 4 (by omega)) (Nat.le_refl _) 8 rfl m.seq rfl).mono ?_
  rintro e x5 ⟨v4, rfl, hw, hb⟩
  have HWmB4 := Lib.hid hw
  have HB7 := Lib.hid (HB6.out.trans hb)
  clear HWmB3 HB6 hw hb f4
  have f5 := HWmB4.out.mat.1 5 (by omega)
  rw [show m.fld 5 = m.off from rfl] at f5
  go_wp2_with fail
  go_at_call 24
  refine (HWmB4.out.num (by omega) (HOK.out 5 (by omega)) (Nat.le_refl _) 2 rfl m.off rfl).mono ?_
  rintro e x6 ⟨v5, rfl, hw, hb⟩
  have HWmB5 := Lib.hid hw
  have HB8 := Lib.hid (HB7.out.trans hb)
  clear HWmB4 HB7 hw hb f5
  have f6 := HWmB5.out.mat.1 6 (by omega)
  rw [show m.fld 6 = m.len from rfl] at f6
  go_wp2_with fail
  go_at_call 24
  refine (HWmB5.out.num (by omega) (HOK.out 6 (by omega)) (Nat.le_refl _) 2 rfl m.len rfl).mono ?_
  rintro e x7 ⟨v6, rfl, hw, hb⟩
  have HWmB6 := Lib.hid hw
  have HB9 := Lib.hid (HB8.out.trans hb)
  clear HWmB5 HB8 hw hb f6
  obtain ⟨hM, ⟨row, hW, hr⟩, hbp⟩ := HWmB6.out
  have f7 := hM.2
  have hpl := hW.lt
  have HPL := Lib.hid (m.pre_len 7)
  have HX := Lib.hid (reftext_ok p row (m.pre 7) m.data x7 hds hW (by have := HPL.out; omega))
  have HR := Lib.hid hr
  clear hM hW HWmB6 hr
  go_wp2_with fail
  go_at_call 25
  refine HX.out.mono ?_
  rintro e x8 ⟨rfl, row', hWa, hRa, hFa⟩
  have HWa := Lib.hid hWa
  have HBa := Lib.hid (HB9.out.trans ((hFa.below (by omega) HR.out).mono (by omega)))
  clear hWa hRa hFa
  go_wp2_with fail
  go_at_call 27
  refine (refbytes p row' _ _ HWa.out).mono ?_
  rintro e wb ⟨rfl, rfl⟩
  have HSZ := Lib.hid (show (strOfNums (m.pre 7 ++ leb (m.data.size : Int) 2 ++ nums m.data)).size ≤ 1000000000000 by
    rw [strOfNums_size, List.length_append, List.length_append, nums_length, leb_len _ _ (by omega)]; have := HPL.out; omega)
  go_wp2_with fail
  go_at_call 26
  refine (rseal_any _ _ HSZ.out).mono ?_
  rintro e wc ⟨rfl, hbc⟩
  have HBc := Lib.hid (HBa.out.trans (hbc.mono HBa.out.size))
  clear hbc
  go_wp2
  go_ret2
  exact ⟨rfl, HBc.out⟩
end Go.Proofs.YtjgicapjbibioaaDoor
