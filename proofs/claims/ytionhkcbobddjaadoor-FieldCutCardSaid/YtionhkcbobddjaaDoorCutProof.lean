/-
  FieldCut is proved as it stands: for every input the law answers true, and its arguments read as before. Condition: errors.errorType reads as its initialiser lays it (the card ties that to the program's text).
-/
import Derived.Test.YtionhkcbobddjaaDoorDoor
import Derived.Test.YtionhkcbobddjaaDoorCut
import Derived.Carry
import Derived.ProofKit
namespace Go.Proofs.YtionhkcbobddjaaDoor
open Go.ChangeShapes Go.WideShapes Go.RowKit
open Go.ChangeMaps (open_string shut_string)

theorem fieldCut_any (n : Int) (s : ByteArray) (c : Int) (w : World) (hg : ErrType w) (hc0 : 0 ≤ c) (hc1 : c ≤ 255) :
    Calls Tryd.prog 8 #[.int .i64 n, .string s, .int .u8 c] w fun e w' => e = .returned (.bool true) ∧ Below w.heap.size w w' := by
  by_cases hs : s.size ≤ 1024
  · have hp := Int.emod_nonneg c (b := 10 + (s.size : Int)) (by omega)
    obtain ⟨K, hK⟩ := Int.eq_ofNat_of_zero_le hp
    have hK' : c % (10 + (s.size : Int)) = K := hK
    by_cases h8 : K < 8
    · exact cut_a n s c K w hg hs hc0 hc1 hK' h8
    · by_cases h10 : K < 10
      · exact cut_b n s c K w hg hs hc0 hc1 hK' (by omega) h10
      · exact cut_c n s c K w hg hs hc0 hc1 hK' (by omega)
  · exact cut_bound n s c w (by omega)

set_option maxRecDepth 100000 in
theorem fieldCut_lifted (os : Os) (started : os.Started) (H : Type) (enc : TypeId × Value → H) :
    ReturnsInHanded {} Tryd.checked os 8 .any (fun w args => (Rows.fieldCutSpec.pre enc Tryd.prog Tryd.f8 [] false w args ∧ laidMetH Tryd.prog [("errors.errorType", Rows.laid_errors_errorType)] w) ∧ sizedMet enc Tryd.prog Tryd.f8 (OpenSpec.ofChange Rows.fieldCutSpec) false w args)
      (Rows.fieldCutSpec.post enc Tryd.prog Tryd.f8 false true false false) := by
  refine returnsInHanded_of_change_and (C := Tryd.checked) (X := fun w _ => laidMetH Tryd.prog [("errors.errorType", Rows.laid_errors_errorType)] w) (fun _ _ _ hh h => h.of_heap hh) ownK started (by kernel_rfl) Tryd.func8
    (ChangeSpec.witness_at (enc := enc) (C := Tryd.checked) (os := os) (X := fun w _ => laidMetH Tryd.prog [("errors.errorType", Rows.laid_errors_errorType)] w) false (laidWorld os) #[.int .i64 0, .string ByteArray.empty, .int .u8 0] 8 rfl (by kernel_rfl) (by kernel_rfl) (by kernel_rfl) (by kernel_rfl) (by kernel_rfl) (laidWorld_met os _)) ?_
  intro W base args ds gs before hval0 hW _ _ hL _
  have hval : ∀ (j : Nat) t v, Tryd.f8.params[j]? = some t → args[j]? = some v → Value.okWide Tryd.prog W .any base t v := hval0
  have hW' := hW
  obtain ⟨p, q, hA0, hV0, rfl, hfz, hnd⟩ := hW
  have hA : DataW.TrodAll enc Tryd.prog W 0 (fun _ => true) true Tryd.f8.params.toList args.toList ds p := hA0
  have hV : DataW.TrodVars enc Tryd.prog W (fun _ => true) [] gs q := hV0
  rw [Tryd.params8] at hA hval
  obtain ⟨v0, v1, v2, d0, d1, d2, p0, p1, p2, rfl, rfl, rfl, h0, h1, h2⟩ := trodAll_three hA
  obtain ⟨n, rfl, rfl, rfl, hwn⟩ := open_int Tryd.underlying3 (hval 0 3 v0 rfl rfl) h0
  obtain ⟨s, rfl, rfl, rfl, hws⟩ := open_string Tryd.underlying9 (hval 1 9 v1 rfl rfl) h1
  obtain ⟨c, rfl, rfl, rfl, hwc⟩ := open_int Tryd.underlying5 (hval 2 5 v2 rfl rfl) h2
  have hg := errType_of_laid hL
  obtain ⟨rfl, rfl⟩ := novars hV
  have e1 : Rows.fieldCutSpec.fn H ([.lit (.int .i64 n), .lit (.string s.data.toList), .lit (.int .u8 c)] ++ []) = { results := [.lit (.bool true)], args := [.lit (.int .i64 n), .lit (.string s.data.toList), .lit (.int .u8 c)] } := by simp [Rows.fieldCutSpec]
  refine (fieldCut_any n s c W hg (bounds_u8 hwc).1 (bounds_u8 hwc).2).mono fun e W' ⟨he, hb⟩ => ?_
  subst he
  refine ⟨_, rfl, _, _, _, [], [], [], hW', ?_, ?_, ?_, hb.frame _, fun h => by cases h⟩
  · rw [e1]; exact trodAll_mk1 (shut_bool Tryd.underlying4 true)
  · rw [e1]; exact trodAll_mk3 (shut_int Tryd.underlying3 hwn) (shut_string Tryd.underlying9 hws) (shut_int Tryd.underlying5 hwc)
  · rw [e1]; rfl

theorem fieldCut_holds : Rows.FieldCutSaid :=
  OpenClaim.holds_of_wide 8 Tryd.f8 rfl rfl rfl rfl rfl rfl rfl ⟨rfl, rfl, rfl, rfl, rfl⟩ rfl rfl rfl rfl rfl (by kernel_rfl) Tryd.func8 (by kernel_rfl)
    (of_decide_eq_true (by kernel_rfl)) (by unfold Func.isWrapper; rw [if_neg (of_decide_eq_false (by kernel_rfl))]; exact ⟨rfl, rfl⟩)
    (fun os started H enc _ => fieldCut_lifted os started H enc)

/-- The card: the row, its listed variable tied to the program's text. -/
theorem fieldCut_card : Rows.FieldCutCardSaid :=
  Claim7.holds_tied_plain_at .later [] [.handle] true Rows.fieldCutCard.stood.harness true
    fieldCut_holds (fun _ h => by cases h) (by kernel_rfl) (fun _ h => by cases h) fieldCut_row_tie rfl ⟨rfl, rfl⟩ (by kernel_rfl) rfl
    (fun f fn hf hfn => by
      obtain rfl : f = 8 := Option.some.inj ((show Tryd.prog.funcNamed "weirkeep/weirkeeplaw01.FieldCut" = some 8 by kernel_rfl).symm.trans hf) |>.symm
      obtain rfl : fn = Tryd.f8 := (Option.some.inj (Tryd.func8.symm.trans hfn)).symm
      exact ⟨by kernel_rfl, fun j t ht => by
        rw [Tryd.params8] at ht
        have h3 : t = 3 ∨ t = 9 ∨ t = 5 := by
          rcases j with _ | _ | _ | j
          · exact .inl (by simpa using ht.symm)
          · exact .inr (.inl (by simpa using ht.symm))
          · exact .inr (.inr (by simpa using ht.symm))
          · simp at ht
        rcases h3 with rfl | rfl | rfl
        · exact (show Tryd.prog.wantsStandIn 3 = false by kernel_rfl)
        · exact (show Tryd.prog.wantsStandIn 9 = false by kernel_rfl)
        · exact (show Tryd.prog.wantsStandIn 5 = false by kernel_rfl)⟩)
    (by kernel_rfl)
#print axioms fieldCut_card
end Go.Proofs.YtionhkcbobddjaaDoor
