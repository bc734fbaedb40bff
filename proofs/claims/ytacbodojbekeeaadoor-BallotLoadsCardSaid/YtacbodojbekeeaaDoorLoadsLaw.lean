/-
  BallotLoads (weirkeeplaw10), walked.
-/
import Derived.Test.YtacbodojbekeeaaDoorBoth10
namespace Go.Proofs.YtacbodojbekeeaaDoor
open Go.RowKit

set_option maxRecDepth 100000 in
set_option maxHeartbeats 4000000 in
theorem ballotLoads_any (s : ByteArray) (w : World) (hT : Tab w) (hE : ErrType w) :
    Calls Tryd.prog 4 #[.string s] w fun e w' => e = .returned (.bool true) ∧ Below w.heap.size w w' := by
  have HS := Lib.hid (fun (W : World) (hb : Below w.heap.size w W) => shown_any W (hT.below hb) (hE.kept (hb.block _ hE.lt)))
  have HT := Lib.hid hT
  have HE := Lib.hid hE
  clear hT hE
  by_cases h1 : 4096 < s.size
  · have h1I : (4096 : Int) < (s.size : Int) := by omega
    go_enter Tryd.func4, Tryd.ntmps4
    go_wp2_with (go_at_call 10; refine (HS.out _ (Below.refl _ _)).mono ?_; rintro e w' ⟨rfl, hb⟩; have HB := Lib.hid hb; clear hb)
    go_ret
    exact ⟨rfl, HB.out⟩
  · have h1I : ¬ (4096 : Int) < (s.size : Int) := by omega
    have hsz := openOf_size s
    go_enter Tryd.func4, Tryd.ntmps4
    go_wp2_with fail
    go_at_call 10
    refine (HS.out _ (Below.refl _ _)).mono ?_
    rintro e w1 ⟨rfl, hb1⟩
    have HB1 := Lib.hid hb1
    have HL := Lib.hid (load_any s w1 (HT.out.below hb1) (HE.out.kept (hb1.block _ HE.out.lt)) (by omega))
    clear hb1 HS
    go_wp2_with fail
    go_at_call 20
    refine HL.out.mono ?_
    rintro e w2 ⟨v, k, rfl, hb2, hor⟩
    have HB2 := Lib.hid (HB1.out.trans (hb2.mono HB1.out.size))
    have HO := Lib.hid hor
    have HRL := Lib.hid (rload_any s w2 (by omega) (by omega))
    clear hb2 hor HL HB1
    go_wp2_with fail
    go_at_call 23
    refine HRL.out.mono ?_
    rintro e w3 ⟨u, m, rfl, hb3, hor⟩
    have HB3 := Lib.hid (HB2.out.trans (hb3.mono HB2.out.size))
    rcases HO.out with ⟨e1, rfl, rfl⟩ | ⟨A, a, e1, rfl, rfl, ha, hA⟩
    · rcases hor with ⟨-, rfl, rfl⟩ | ⟨A, a, e2, -⟩
      · clear hb3 HRL HO
        go_wp2
        go_quiet (fail)
        go_wp2
        go_ret
        exact ⟨rfl, below_drewN HB3.out _⟩
      · rw [e1] at e2; cases e2
    · rcases hor with ⟨e2, -⟩ | ⟨A', r, e2, rfl, rfl, hr, hR⟩
      · rw [e1] at e2; cases e2
      · rw [e1] at e2
        obtain rfl := Option.some.inj e2
        have hsv := (load_some e1).2
        have bd : Below w3.heap.size w3 w3.drew := (Below.refl _ _).drew
        have A0 := Lib.hid ((hA.below hb3).below bd)
        have hR0 := hR.below bd
        obtain ⟨c0, Ar, cr, c1, hrow, -⟩ := hR0.rc.form
        have RL := Lib.hid hrow
        have hrl := hR0.rc.lt
        have HH := Lib.hid (show ∀ w', Below w3.drew.heap.size w3.drew w' → w'.cell? ⟨r, 0, none⟩ = some (.int .i64 A.p) ∧ w'.cell? ⟨r, 1, none⟩ = some (.slice Ar A.l.length cr) from fun w' hw => ⟨(hw.cell (p := ⟨r, 0, none⟩) hrl).trans c0, (hw.cell (p := ⟨r, 1, none⟩) hrl).trans c1⟩)
        have B0 := Lib.hid (Below.refl w3.drew.heap.size w3.drew)
        have hG := Lib.hid A0.out.good
        have hlen := Lib.hid (show A.l.length ≤ 100000 from by have := hG.out.len; omega)
        have T0 := Lib.hid (HT.out.below ((HB3.out.trans (bd.mono HB3.out.size))))
        have HSv := Lib.hid (show Calls Tryd.prog 19 #[.pointer (some ⟨a, 0, none⟩)] w3.drew fun e w' => e = .returned (.string s) ∧ Below w3.drew.heap.size w3.drew w' from by
          have := save_any a A w3.drew A0.out T0.out
          rw [hsv] at this; exact this)
        clear hb3 HRL HO hA hR hR0 c0 c1 hrow bd e1 e2 hsv
        go_wp2_with fail
        go_region_held3 (fun w' => w'.cell? ⟨r, 0, none⟩ = some (.int .i64 A.p) ∧ w'.cell? ⟨r, 1, none⟩ = some (.slice Ar A.l.length cr))
          (first | exact HH.out _ B4.out | exact HH.out _ B3.out | exact HH.out _ B2.out | exact HH.out _ B1.out | exact HH.out _ B0.out | fail)
          (first
            | (go_at_call 19; (with_reducible refine HSv.out.mono ?_); rintro e wA ⟨rfl, k2⟩; have B1 := Lib.hid k2; have A1 := Lib.hid (A0.out.below k2); clear k2)
            | (go_at_call 12; (with_reducible refine (promised_any a A.p A.l _ A1.out.pc).mono ?_); rintro e wB ⟨rfl, rfl⟩)
            | (go_at_call 22; (with_reducible refine (votes_any a A.p A.l _ A1.out.pc hG.out.srt).mono ?_); rintro e wC ⟨va, rfl, k1, k2⟩; have VA := Lib.hid k1; have B2 := Lib.hid (B1.out.trans (k2.mono B1.out.size)); clear k1 k2)
            | (go_at_call 16; (with_reducible refine (theirs_any VA.out hlen.out).mono ?_); rintro e wD ⟨vb, rfl, k1, k2⟩; have VB := Lib.hid k1; have B3 := Lib.hid (B2.out.trans (k2.mono B2.out.size)); clear k1 k2)
            | (go_at_call 15; (with_reducible refine (same10_yes VB.out (OwnsV.below B3.out RL.out) hlen.out).mono ?_); rintro e wE ⟨rfl, k2⟩; have B4 := Lib.hid (B3.out.trans (k2.mono B3.out.size)); clear k2)
            | fail)
        clear HH
        go_wp2
        go_ret
        exact ⟨rfl, HB3.out.trans ((show Below w3.heap.size w3 _ from ⟨B4.out.os, B4.out.tape, B4.out.output, B4.out.size, B4.out.block⟩).mono HB3.out.size)⟩
end Go.Proofs.YtacbodojbekeeaaDoor
