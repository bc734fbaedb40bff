/-
  FieldWide is proved as it stands: for every int and every uint8 the law answers true, and its arguments read as before. Condition: errors.errorType reads as its initialiser lays it (the card ties that to the program's text).
-/
import Derived.Test.YtionhkcbobddjaaDoorDoor
import Derived.Test.YtionhkcbobddjaaDoorWide
namespace Go.Proofs.YtionhkcbobddjaaDoor
open Go.ChangeShapes Go.WideShapes Go.RowKit

theorem wide_any (n k : Int) (w : World) (hg : ErrType w) (h1 : n ≤ 9223372036854775807) (hk0 : 0 ≤ k) (hk1 : k ≤ 255) :
    Calls Tryd.prog 6 #[.int .i64 n, .int .u8 k] w fun e w' => e = .returned (.bool true) ∧ Below w.heap.size w w' := by
  have hc : k % 4 = 0 ∨ k % 4 = 1 ∨ k % 4 = 2 ∨ k % 4 = 3 := by omega
  rcases Int.lt_or_le n 0 with hn | hn
  · rcases hc with hc | hc | hc | hc
    · exact wide1_neg n k w hg h1 hk0 hk1 hc hn
    · exact wide2_neg n k w hg h1 hk0 hk1 hc hn
    · exact wide4_neg n k w hg h1 hk0 hk1 hc hn
    · exact wide8_neg n k w hg h1 hk0 hk1 hc hn
  · rcases hc with hc | hc | hc | hc
    · rcases Int.lt_or_le n 256 with hl | hl
      · exact wide1_ok n k w hg h1 hk0 hk1 hc hn hl
      · exact wide1_big n k w hg h1 hk0 hk1 hc hl
    · rcases Int.lt_or_le n 65536 with hl | hl
      · exact wide2_ok n k w hg h1 hk0 hk1 hc hn hl
      · exact wide2_big n k w hg h1 hk0 hk1 hc hl
    · rcases Int.lt_or_le n 4294967296 with hl | hl
      · exact wide4_ok n k w hg h1 hk0 hk1 hc hn hl
      · exact wide4_big n k w hg h1 hk0 hk1 hc hl
    · exact wide8_ok n k w hg h1 hk0 hk1 hc hn

set_option maxRecDepth 100000 in
theorem wide_lifted (os : Os) (started : os.Started) (H : Type) (enc : TypeId × Value → H) :
    ReturnsInHanded {} Tryd.checked os 6 .any (fun w args => (Rows.fieldWideSpec.pre enc Tryd.prog Tryd.f6 [] false w args ∧ laidMetH Tryd.prog [("errors.errorType", Rows.laid_errors_errorType)] w) ∧ sizedMet enc Tryd.prog Tryd.f6 (OpenSpec.ofChange Rows.fieldWideSpec) false w args)
      (Rows.fieldWideSpec.post enc Tryd.prog Tryd.f6 false true false false) := by
  refine returnsInHanded_of_change_and (C := Tryd.checked) (X := fun w _ => laidMetH Tryd.prog [("errors.errorType", Rows.laid_errors_errorType)] w) (fun _ _ _ hh h => h.of_heap hh) ownK started (by kernel_rfl) Tryd.func6
    (ChangeSpec.witness_at (enc := enc) (C := Tryd.checked) (os := os) (X := fun w _ => laidMetH Tryd.prog [("errors.errorType", Rows.laid_errors_errorType)] w) false (laidWorld os) #[.int .i64 0, .int .u8 0] 8 rfl (by kernel_rfl) (by kernel_rfl) (by kernel_rfl) (by kernel_rfl) (by kernel_rfl) (laidWorld_met os _)) ?_
  intro W base args ds gs before hval0 hW _ _ hL _
  have hval : ∀ (j : Nat) t v, Tryd.f6.params[j]? = some t → args[j]? = some v → Value.okWide Tryd.prog W .any base t v := hval0
  have hW' := hW
  obtain ⟨p, q, hA0, hV0, rfl, hfz, hnd⟩ := hW
  have hA : DataW.TrodAll enc Tryd.prog W 0 (fun _ => true) true Tryd.f6.params.toList args.toList ds p := hA0
  have hV : DataW.TrodVars enc Tryd.prog W (fun _ => true) [] gs q := hV0
  rw [Tryd.params6] at hA hval
  obtain ⟨v0, v1, d0, d1, p0, p1, rfl, rfl, rfl, h0, h1⟩ := trodAll_two hA
  obtain ⟨n, rfl, rfl, rfl, hwn⟩ := open_int Tryd.underlying3 (hval 0 3 v0 rfl rfl) h0
  obtain ⟨k, rfl, rfl, rfl, hwk⟩ := open_int Tryd.underlying5 (hval 1 5 v1 rfl rfl) h1
  have hg := errType_of_laid hL
  obtain ⟨rfl, rfl⟩ := novars hV
  have e1 : Rows.fieldWideSpec.fn H ([.lit (.int .i64 n), .lit (.int .u8 k)] ++ []) = { results := [.lit (.bool true)], args := [.lit (.int .i64 n), .lit (.int .u8 k)] } := by simp [Rows.fieldWideSpec]
  refine (wide_any n k W hg ?_ ?_ ?_).mono fun e W' ⟨he, hb⟩ => ?_
  · exact (bounds_i64 hwn).2
  · exact (bounds_u8 hwk).1
  · exact (bounds_u8 hwk).2
  subst he
  refine ⟨_, rfl, _, _, _, [], [], [], hW', ?_, ?_, ?_, hb.frame _, fun h => by cases h⟩
  · rw [e1]; exact trodAll_mk1 (shut_bool Tryd.underlying4 true)
  · rw [e1]; exact trodAll_mk2 (shut_int Tryd.underlying3 hwn) (shut_int Tryd.underlying5 hwk)
  · rw [e1]; rfl

theorem wide_holds : Rows.FieldWideSaid :=
  OpenClaim.holds_of_wide 6 Tryd.f6 rfl rfl rfl rfl rfl rfl rfl ⟨rfl, rfl, rfl, rfl, rfl⟩ rfl rfl rfl rfl rfl (by kernel_rfl) Tryd.func6 (by kernel_rfl)
    (of_decide_eq_true (by kernel_rfl)) (by unfold Func.isWrapper; rw [if_neg (of_decide_eq_false (by kernel_rfl))]; exact ⟨rfl, rfl⟩)
    (fun os started H enc _ => wide_lifted os started H enc)

/-- The card: the row, its listed variable tied to the program's text. -/
theorem wide_card : Rows.FieldWideCardSaid :=
  Claim7.holds_tied_plain_at .later [] [.handle] true Rows.fieldWideCard.stood.harness true
    wide_holds (fun _ h => by cases h) (by kernel_rfl) (fun _ h => by cases h) fieldWide_row_tie rfl ⟨rfl, rfl⟩ (by kernel_rfl) rfl
    (fun f fn hf hfn => by
      obtain rfl : f = 6 := Option.some.inj ((show Tryd.prog.funcNamed "weirkeep/weirkeeplaw01.FieldWide" = some 6 by kernel_rfl).symm.trans hf) |>.symm
      obtain rfl : fn = Tryd.f6 := (Option.some.inj (Tryd.func6.symm.trans hfn)).symm
      exact ⟨by kernel_rfl, fun j t ht => by
        rw [Tryd.params6] at ht
        have h3 : t = 3 ∨ t = 5 := by
          rcases j with _ | _ | j
          · exact .inl (by simpa using ht.symm)
          · exact .inr (by simpa using ht.symm)
          · simp at ht
        rcases h3 with rfl | rfl
        · exact (show Tryd.prog.wantsStandIn 3 = false by kernel_rfl)
        · exact (show Tryd.prog.wantsStandIn 5 = false by kernel_rfl)⟩)
    (by kernel_rfl)
#print axioms wide_card
end Go.Proofs.YtionhkcbobddjaaDoor
