/-
  Votes, Prepare, Accept, New (package ballot), by contracts.
-/
import Derived.Test.YtacbodojbekeeaaDoorAcp2
import Derived.Great.BuildSlice
namespace Go.Proofs.YtacbodojbekeeaaDoor
open Go.RowKit

theorem votes_any (a : Nat) (p : Int) (l : List V) (w : World) (h : PC w a p l) (hs : Srt 0 l) :
    Calls Tryd.prog 22 #[.pointer (some ⟨a, 0, none⟩)] w fun e w' => ∃ v, e = .returned v ∧ OwnsV 32 w' w.heap.size v l ∧ Below w.heap.size w w' := by
  have HS := Lib.hid (since_any a 0 p l w h hs)
  rw [from_zero hs] at HS
  clear h hs
  go_enter Tryd.func22, Tryd.ntmps22
  go_wp2_with (go_at_call 32; refine HS.out.mono ?_; rintro e w' ⟨v, rfl, h1, h2⟩; have K1 := Lib.hid h1; have K2 := Lib.hid h2; clear h1 h2)
  go_ret
  exact ⟨_, rfl, K1.out, K2.out⟩

set_option maxRecDepth 100000 in
theorem prepare_any (a : Nat) (b f : Int) (A : Acc) (w : World) (h : PA w a A) :
    Calls Tryd.prog 13 #[.pointer (some ⟨a, 0, none⟩), .int .i64 b, .int .i64 f] w fun e w' => ∃ v, e = .returned (.tuple #[v, .int .i64 (prepE A b)]) ∧ OwnsV 32 w' w.heap.size v (prepL A b f) ∧ PA w' a (A.prep b) ∧ Fb a w w' := by
  have HI := Lib.hid (isB_any b)
  have HPr := Lib.hid (promise_any a b A.p A.l w h.pc)
  have HG := Lib.hid (h.good.prep b)
  have HS := Lib.hid h.good.srt
  have HP := Lib.hid h
  have Q := @prepE_zero A b
  by_cases h1 : isB b
  · rw [decide_eq_true h1] at HI
    by_cases h2 : b < A.p
    · have e : prepE A b = 5 := by unfold prepE; rw [if_pos h1, if_pos h2]
      have e1 : prepL A b f = [] := by unfold prepL; rw [if_neg (by omega)]
      have e2 : A.prep b = A := by unfold Acc.prep; rw [if_neg (by omega)]
      rw [e, e1, e2]
      rw [if_pos h2, if_pos h2] at HPr
      rw [e2] at HG
      clear e e1 e2 h1 h2 h Q
      go_enter Tryd.func13, Tryd.ntmps13
      go_wp2_with (first | (go_at_call 30; refine (HI.out _).mono ?_; rintro e w' ⟨rfl, rfl⟩) | (go_at_call 31; refine HPr.out.mono ?_; rintro e w' ⟨rfl, k1, k2⟩; have K1 := Lib.hid k1; have K2 := Lib.hid k2; clear k1 k2) | fail)
      go_ret2
      exact ⟨_, rfl, OwnsV.nil _ _ _, ⟨K1.out, HG.out⟩, K2.out⟩
    · have e : prepE A b = 0 := Q.2 ⟨h1, by omega⟩
      have e1 : prepL A b f = from_ A.l f := by unfold prepL; rw [if_pos e]
      have e2 : A.prep b = ⟨b, A.l⟩ := by unfold Acc.prep; rw [if_pos e]
      rw [e, e1, e2]
      rw [if_neg h2, if_neg h2] at HPr
      rw [e2] at HG
      clear e e1 e2 h1 h2 h Q
      go_enter Tryd.func13, Tryd.ntmps13
      go_wp2_with (first | (go_at_call 30; refine (HI.out _).mono ?_; rintro e w' ⟨rfl, rfl⟩) | (go_at_call 31; refine HPr.out.mono ?_; rintro e w1 ⟨rfl, k1, k2⟩; have K1 := Lib.hid k1; have K2 := Lib.hid k2; clear k1 k2) | (go_at_call 32; refine (since_any a f b A.l _ K1.out HS.out).mono ?_; rintro e w2 ⟨v, rfl, k1, k2⟩; have K3 := Lib.hid k1; have K4 := Lib.hid k2; clear k1 k2) | fail)
      go_ret2
      exact ⟨_, rfl, K3.out.mono K2.out.size, ⟨K1.out.below K4.out, HG.out⟩, K2.out.then_below K4.out⟩
  · rw [decide_eq_false h1] at HI
    have e : prepE A b = 1 := by unfold prepE; rw [if_neg h1]
    have e1 : prepL A b f = [] := by unfold prepL; rw [if_neg (by omega)]
    have e2 : A.prep b = A := by unfold Acc.prep; rw [if_neg (by omega)]
    rw [e, e1, e2]
    clear e e1 e2 h1 h Q
    go_enter Tryd.func13, Tryd.ntmps13
    go_wp2_with (go_at_call 30; refine (HI.out _).mono ?_; rintro e w' ⟨rfl, rfl⟩)
    go_ret2
    exact ⟨_, rfl, OwnsV.nil _ _ _, HP.out, Fb.same⟩

set_option maxRecDepth 100000 in
theorem accept_any (a : Nat) (v : V) (A : Acc) (w : World) (h : PA w a A) :
    Calls Tryd.prog 17 #[.pointer (some ⟨a, 0, none⟩), v.val] w fun e w' => e = .returned (.int .i64 (accE A v)) ∧ PA w' a (A.accept v) ∧ Fb a w w' := by
  have hba : Below w.heap.size w (w.alloc (.cells v.cells 32)) := (Below.refl _ _).alloc (Nat.le_refl _) _
  have HB := Lib.hid hba
  have HP := Lib.hid (h.pc.below hba)
  have HV := Lib.hid (AV.fresh 32 w v)
  have HG := Lib.hid (h.good.accept v)
  have HGo := Lib.hid h.good
  have HW := Lib.hid (wrong_any v)
  have hal := h.pc.lt
  have Q := @accE_zero A v
  obtain ⟨c0, c1, c2⟩ := HV.out.all
  clear h hba
  by_cases h1 : wrongE v = 0
  · obtain ⟨z1, z2, z3, z4⟩ := wrongE_zero.1 h1
    rw [h1] at HW
    by_cases h2 : v.b < A.p
    · have e : accE A v = 5 := by unfold accE; rw [if_pos h1, if_pos h2]
      have e2 : A.accept v = A := by unfold Acc.accept; rw [if_neg (by omega)]
      rw [e, e2]
      have HPr := Lib.hid (fun W (hW : PC W a A.p A.l) => promise_any a v.b A.p A.l W hW)
      simp only [if_pos h2] at HPr
      clear e e2 Q h1 h2 z1 z2 z3 z4 HG
      obtain ⟨s, b, x⟩ := v
      go_enter Tryd.func17, Tryd.ntmps17
      go_wp2_with (first | (go_at_call 34; refine (HW.out _).mono ?_; rintro e w1 ⟨rfl, k1⟩; have HP1 := Lib.hid (HP.out.below k1); have HB1 := Lib.hid (HB.out.trans (k1.mono HB.out.size)); obtain ⟨d0, d1, d2⟩ := (HV.out.below k1).all; clear k1) | (go_at_call 31; refine (HPr.out _ HP1.out).mono ?_; rintro e w2 ⟨rfl, k1, k2⟩; have K1 := Lib.hid k1; have K2 := Lib.hid (Fb.after_below HB1.out k2); clear k1 k2) | fail)
      go_ret
      exact ⟨rfl, ⟨K1.out, HGo.out⟩, K2.out⟩
    · have e : accE A v = 0 := Q.2 ⟨h1, by omega⟩
      have e2 : A.accept v = ⟨v.b, ins v A.l⟩ := by unfold Acc.accept; rw [if_pos e]
      rw [e, e2]
      rw [e2] at HG
      have HPr := Lib.hid (fun W (hW : PC W a A.p A.l) => promise_any a v.b A.p A.l W hW)
      simp only [if_neg h2] at HPr
      have HVo := Lib.hid (fun W (hW : PC W a v.b A.l) => vote_any a v.b A.l v W hW HGo.out.srt z1 z2 (by omega))
      clear e e2 Q h1 h2 z1 z2 z3 z4
      obtain ⟨s, b, x⟩ := v
      go_enter Tryd.func17, Tryd.ntmps17
      go_wp2_with (first | (go_at_call 34; refine (HW.out _).mono ?_; rintro e w1 ⟨rfl, k1⟩; have HP1 := Lib.hid (HP.out.below k1); have HB1 := Lib.hid (HB.out.trans (k1.mono HB.out.size)); have HV1 := Lib.hid (HV.out.below k1); obtain ⟨d0, d1, d2⟩ := HV1.out.all; clear k1) | (go_at_call 31; refine (HPr.out _ HP1.out).mono ?_; rintro e w2 ⟨rfl, k1, k2⟩; have K1 := Lib.hid k1; have K2 := Lib.hid (Fb.after_below HB1.out k2); obtain ⟨e0, e1, e2⟩ := (HV1.out.of_block (k2.block _ HV1.out.lt (Nat.ne_of_gt hal) (by simp))).all; clear k1 k2) | (go_at_call 35; refine (HVo.out _ K1.out).mono ?_; rintro e w3 ⟨rfl, k1, k2⟩; have K3 := Lib.hid k1; have K4 := Lib.hid (K2.out.trans k2); clear k1 k2) | fail)
      go_ret
      exact ⟨rfl, ⟨K3.out, HG.out⟩, K4.out⟩
  · have e : accE A v = wrongE v := by unfold accE; rw [if_neg h1]
    have e2 : A.accept v = A := by unfold Acc.accept; rw [if_neg (by omega)]
    rw [e, e2]
    clear e e2 Q HG
    generalize wrongE v = r at h1 HW ⊢
    have hd : (r != 0) = true := by simpa using h1
    obtain ⟨s, b, x⟩ := v
    go_enter Tryd.func17, Tryd.ntmps17
    go_wp2_with (go_at_call 34; refine (HW.out _).mono ?_; rintro e w1 ⟨rfl, k1⟩; have HP1 := Lib.hid (HP.out.below k1); have HB1 := Lib.hid (HB.out.trans (k1.mono HB.out.size)); clear k1)
    go_ret
    exact ⟨rfl, ⟨HP1.out, HGo.out⟩, Fb.of_below HB1.out⟩

def nils : List Value := List.replicate 4096 (.pointer none)
theorem nils_length : nils.length = 4096 := List.length_replicate
theorem nils_get (q : Nat) (h : q < 4096) : nils[q]? = some (.pointer none) := by unfold nils; rw [List.getElem?_replicate, if_pos h]
/-- The cells of an acceptor that has promised nothing, and voted for nothing. -/
def blank : List Value := .int .i64 0 :: nils
set_option maxRecDepth 1000000 in
theorem info71 : (Tryd.prog.info? 71).map (fun i => (i.zero, i.size)) = some (some (.agg blank.toArray), 4097) := by kernel_rfl
theorem blank_length : blank.length = 4097 := by unfold blank; rw [List.length_cons, nils_length]
theorem zero71 : ∃ Z : Array Value, (∀ w, (zeroValue 71).run Tryd.prog w = .ok (.agg Z) w) ∧ Z ≠ #[] ∧ Z = blank.toArray := by
  refine ⟨blank.toArray, fun w => ?_, fun e => ?_, rfl⟩
  · have h := info71
    generalize blank = z at h ⊢
    cases hi : Tryd.prog.info? 71 with
    | none => rw [hi] at h; simp at h
    | some i =>
      rw [hi] at h
      simp only [Option.map_some, Option.some.injEq, Prod.mk.injEq] at h
      simp [zeroValue, typeInfo, hi, h.1]
  · have h1 := congrArg Array.size e
    rw [List.size_toArray, blank_length] at h1
    exact absurd h1 (by simp)
theorem blank_get (o : Nat) (h : o < 4097) : blank.toArray[o]? = some (pa 0 (fun _ => .pointer none) o) := by
  rw [List.getElem?_toArray]
  unfold pa
  by_cases h0 : o = 0
  · subst h0; rw [if_pos rfl]; rfl
  · rw [if_neg h0]
    obtain ⟨q, rfl⟩ : ∃ q, o = q + 1 := ⟨o - 1, by omega⟩
    exact nils_get q (by omega)
theorem PC.fresh (w : World) : PC (w.alloc (.cells blank.toArray 71)) w.heap.size 0 [] :=
  ⟨fun _ => .pointer none, ⟨_, heap_alloc_new w _, by simp [blank_length], fun i hi => blank_get i hi⟩, fun _ _ => ⟨fun _ => rfl, fun v hv => by rw [lk_nil] at hv; cases hv⟩⟩
set_option maxRecDepth 100000 in
theorem new_any (w : World) :
    Calls Tryd.prog 11 #[] w fun e w' => e = .returned (.pointer (some ⟨w.heap.size, 0, none⟩)) ∧ PA w' w.heap.size Acc.new ∧ Below w.heap.size w w' ∧ w.heap.size < w'.heap.size := by
  have HP := Lib.hid (PC.fresh w)
  have HB := Lib.hid (show Below w.heap.size w (w.alloc (.cells blank.toArray 71)) from (Below.refl _ _).alloc (Nat.le_refl _) _)
  obtain ⟨Z, hz, hne, hset⟩ := zero71
  rw [← hset] at HP HB
  clear hset
  go_enter Tryd.func11, Tryd.ntmps11
  go_wp2
  go_ret
  exact ⟨rfl, ⟨HP.out, Acc.Good.new⟩, HB.out, by simp⟩
end Go.Proofs.YtacbodojbekeeaaDoor
