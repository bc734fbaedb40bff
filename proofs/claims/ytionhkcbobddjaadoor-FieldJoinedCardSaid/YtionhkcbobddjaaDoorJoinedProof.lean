/-
  FieldJoined is proved as it stands: for every input the law answers true, and its arguments read as before. Condition: errors.errorType reads as its initialiser lays it (the card ties that to the program's text).
-/
import Derived.Test.YtionhkcbobddjaaDoorDoor
import Derived.Test.YtionhkcbobddjaaDoorJoined
import Derived.Carry
import Derived.ProofKit
namespace Go.Proofs.YtionhkcbobddjaaDoor
open Go.ChangeShapes Go.WideShapes Go.RowKit
open Go.ChangeMaps (open_string shut_string)

theorem fieldJoined_any (a b : Int) (s t : ByteArray) (w : World) (hg : ErrType w) (ha1 : a ≤ 9223372036854775807) (hb1 : b ≤ 9223372036854775807) :
    Calls Tryd.prog 7 #[.int .i64 a, .int .i64 b, .string s, .string t] w fun e w' => e = .returned (.bool true) ∧ Below w.heap.size w w' := by
  by_cases hs : s.size ≤ 1024 ∧ t.size ≤ 1024
  · obtain ⟨hs, ht⟩ := hs
    rcases Int.lt_or_le a 0 with ha | ha
    · rcases Int.lt_or_le b 0 with hb | hb
      · exact joined_neg_neg a b s t w hg hs ht ha1 hb1 ha hb
      · rcases Int.lt_or_le b 4294967296 with hc | hc
        · exact joined_neg_ok a b s t w hg hs ht ha1 hb1 ha hb hc
        · exact joined_neg_big a b s t w hg hs ht ha1 hb1 ha hc
    · rcases Int.lt_or_le b 0 with hb | hb
      · exact joined_ok_neg a b s t w hg hs ht ha1 hb1 ha hb
      · rcases Int.lt_or_le b 4294967296 with hc | hc
        · exact joined_ok_ok a b s t w hg hs ht ha1 hb1 ha hb hc
        · exact joined_ok_big a b s t w hg hs ht ha1 hb1 ha hc
  · exact joined_bound a b s t w (by omega)

set_option maxRecDepth 100000 in
theorem fieldJoined_lifted (os : Os) (started : os.Started) (H : Type) (enc : TypeId × Value → H) :
    ReturnsInHanded {} Tryd.checked os 7 .any (fun w args => (Rows.fieldJoinedSpec.pre enc Tryd.prog Tryd.f7 [] false w args ∧ laidMetH Tryd.prog [("errors.errorType", Rows.laid_errors_errorType)] w) ∧ sizedMet enc Tryd.prog Tryd.f7 (OpenSpec.ofChange Rows.fieldJoinedSpec) false w args)
      (Rows.fieldJoinedSpec.post enc Tryd.prog Tryd.f7 false true false false) := by
  refine returnsInHanded_of_change_and (C := Tryd.checked) (X := fun w _ => laidMetH Tryd.prog [("errors.errorType", Rows.laid_errors_errorType)] w) (fun _ _ _ hh h => h.of_heap hh) ownK started (by kernel_rfl) Tryd.func7
    (ChangeSpec.witness_at (enc := enc) (C := Tryd.checked) (os := os) (X := fun w _ => laidMetH Tryd.prog [("errors.errorType", Rows.laid_errors_errorType)] w) false (laidWorld os) #[.int .i64 0, .int .i64 0, .string ByteArray.empty, .string ByteArray.empty] 8 rfl (by kernel_rfl) (by kernel_rfl) (by kernel_rfl) (by kernel_rfl) (by kernel_rfl) (laidWorld_met os _)) ?_
  intro W base args ds gs before hval0 hW _ _ hL _
  have hval : ∀ (j : Nat) t v, Tryd.f7.params[j]? = some t → args[j]? = some v → Value.okWide Tryd.prog W .any base t v := hval0
  have hW' := hW
  obtain ⟨p, q, hA0, hV0, rfl, hfz, hnd⟩ := hW
  have hA : DataW.TrodAll enc Tryd.prog W 0 (fun _ => true) true Tryd.f7.params.toList args.toList ds p := hA0
  have hV : DataW.TrodVars enc Tryd.prog W (fun _ => true) [] gs q := hV0
  rw [Tryd.params7] at hA hval
  obtain ⟨v0, v1, v2, v3, d0, d1, d2, d3, p0, p1, p2, p3, rfl, rfl, rfl, h0, h1, h2, h3⟩ := trodAll_four hA
  obtain ⟨a, rfl, rfl, rfl, hwa⟩ := open_int Tryd.underlying3 (hval 0 3 v0 rfl rfl) h0
  obtain ⟨b, rfl, rfl, rfl, hwb⟩ := open_int Tryd.underlying3 (hval 1 3 v1 rfl rfl) h1
  obtain ⟨s, rfl, rfl, rfl, hws⟩ := open_string Tryd.underlying9 (hval 2 9 v2 rfl rfl) h2
  obtain ⟨t, rfl, rfl, rfl, hwt⟩ := open_string Tryd.underlying9 (hval 3 9 v3 rfl rfl) h3
  have hg := errType_of_laid hL
  obtain ⟨rfl, rfl⟩ := novars hV
  have e1 : Rows.fieldJoinedSpec.fn H ([.lit (.int .i64 a), .lit (.int .i64 b), .lit (.string s.data.toList), .lit (.string t.data.toList)] ++ []) = { results := [.lit (.bool true)], args := [.lit (.int .i64 a), .lit (.int .i64 b), .lit (.string s.data.toList), .lit (.string t.data.toList)] } := by simp [Rows.fieldJoinedSpec]
  refine (fieldJoined_any a b s t W hg (bounds_i64 hwa).2 (bounds_i64 hwb).2).mono fun e W' ⟨he, hb⟩ => ?_
  subst he
  refine ⟨_, rfl, _, _, _, [], [], [], hW', ?_, ?_, ?_, hb.frame _, fun h => by cases h⟩
  · rw [e1]; exact trodAll_mk1 (shut_bool Tryd.underlying4 true)
  · rw [e1]; exact trodAll_mk4 (shut_int Tryd.underlying3 hwa) (shut_int Tryd.underlying3 hwb) (shut_string Tryd.underlying9 hws) (shut_string Tryd.underlying9 hwt)
  · rw [e1]; rfl

theorem fieldJoined_holds : Rows.FieldJoinedSaid :=
  OpenClaim.holds_of_wide 7 Tryd.f7 rfl rfl rfl rfl rfl rfl rfl ⟨rfl, rfl, rfl, rfl, rfl⟩ rfl rfl rfl rfl rfl (by kernel_rfl) Tryd.func7 (by kernel_rfl)
    (of_decide_eq_true (by kernel_rfl)) (by unfold Func.isWrapper; rw [if_neg (of_decide_eq_false (by kernel_rfl))]; exact ⟨rfl, rfl⟩)
    (fun os started H enc _ => fieldJoined_lifted os started H enc)

/-- The card: the row, its listed variable tied to the program's text. -/
theorem fieldJoined_card : Rows.FieldJoinedCardSaid :=
  Claim7.holds_tied_plain_at .later [] [.handle] true Rows.fieldJoinedCard.stood.harness true
    fieldJoined_holds (fun _ h => by cases h) (by kernel_rfl) (fun _ h => by cases h) fieldJoined_row_tie rfl ⟨rfl, rfl⟩ (by kernel_rfl) rfl
    (fun f fn hf hfn => by
      obtain rfl : f = 7 := Option.some.inj ((show Tryd.prog.funcNamed "weirkeep/weirkeeplaw01.FieldJoined" = some 7 by kernel_rfl).symm.trans hf) |>.symm
      obtain rfl : fn = Tryd.f7 := (Option.some.inj (Tryd.func7.symm.trans hfn)).symm
      exact ⟨by kernel_rfl, fun j t ht => by
        rw [Tryd.params7] at ht
        have h3 : t = 3 ∨ t = 9 := by
          rcases j with _ | _ | _ | _ | j
          · exact .inl (by simpa using ht.symm)
          · exact .inl (by simpa using ht.symm)
          · exact .inr (by simpa using ht.symm)
          · exact .inr (by simpa using ht.symm)
          · simp at ht
        rcases h3 with rfl | rfl
        · exact (show Tryd.prog.wantsStandIn 3 = false by kernel_rfl)
        · exact (show Tryd.prog.wantsStandIn 9 = false by kernel_rfl)⟩)
    (by kernel_rfl)
#print axioms fieldJoined_card
end Go.Proofs.YtionhkcbobddjaaDoor
