/-
  WireChanged is proved as it stands: for every message, every int and every byte the law answers true, and its arguments read as before. Condition: check.halves and errors.errorType read as their initialisers lay them (the card ties that to the program's text).
-/
import Derived.Test.YtjgicapjbibioaaDoorDoorBoth
import Derived.Test.YtjgicapjbibioaaDoorAltered
import Derived.Test.YtjgicapjbibioaaDoorMsg
import Derived.Carry
import Derived.ProofKit
namespace Go.Proofs.YtjgicapjbibioaaDoor
open Go.ChangeShapes Go.WideShapes Go.RowKit
open Go.ChangeMaps (open_string shut_string)

theorem wireChanged_any (m : M) (k y : Int) (w : World) (hh : Tab w ∧ ErrType w) (hy0 : 0 ≤ y) (hy1 : y ≤ 255) :
    Calls Tryd.prog 5 #[m.val, .int .i64 k, .int .u8 y] w fun e w' => e = .returned (.bool true) ∧ Below w.heap.size w w' := by
  by_cases hs : m.data.size ≤ 4096
  · by_cases hc : m.chk = 0
    · exact altered_in m k y w hh.1 hh.2 hs hc hy0 hy1
    · exact altered_bad m k y w hh.1 hh.2 hs hc
  · exact altered_out m k y w (by omega)

set_option maxRecDepth 100000 in
theorem wireChanged_lifted (os : Os) (started : os.Started) (H : Type) (enc : TypeId × Value → H) :
    ReturnsInHanded {} Tryd.checked os 5 .any (fun w args => (Rows.wireChangedSpec.pre enc Tryd.prog Tryd.f5 [] false w args ∧ laidMetH Tryd.prog [("weirkeep/check.halves", Rows.laid_weirkeep_check_halves), ("errors.errorType", Rows.laid_errors_errorType)] w) ∧ sizedMet enc Tryd.prog Tryd.f5 (OpenSpec.ofChange Rows.wireChangedSpec) false w args)
      (Rows.wireChangedSpec.post enc Tryd.prog Tryd.f5 false true false false) := by
  refine returnsInHanded_of_change_and (C := Tryd.checked) (X := fun w _ => laidMetH Tryd.prog [("weirkeep/check.halves", Rows.laid_weirkeep_check_halves), ("errors.errorType", Rows.laid_errors_errorType)] w) (fun _ _ _ hh h => h.of_heap hh) ownK started (by kernel_rfl) Tryd.func5
    (ChangeSpec.witness_shaped (enc := enc) (C := Tryd.checked) (os := os) (X := fun w _ => laidMetH Tryd.prog [("weirkeep/check.halves", Rows.laid_weirkeep_check_halves), ("errors.errorType", Rows.laid_errors_errorType)] w) false (World.doorLaid Tryd.prog 400 os) #[.agg #[.int .i64 0, .int .i64 0, .int .i64 0, .int .i64 0, .int .i64 0, .int .i64 0, .int .i64 0, .string ByteArray.empty], .int .i64 0, .int .u8 0] 8 rfl (World.shaped_of_RefB (by kernel_rfl) (by kernel_rfl)) (by kernel_rfl) (by kernel_rfl) (by kernel_rfl) (doorBoth_met os _)) ?_
  intro W base args ds gs before hval0 hW _ _ hL _
  have hval : ∀ (j : Nat) t v, Tryd.f5.params[j]? = some t → args[j]? = some v → Value.okWide Tryd.prog W .any base t v := hval0
  have hW' := hW
  obtain ⟨p, q, hA0, hV, rfl, hfz, hnd⟩ := hW
  have hA : DataW.TrodAll enc Tryd.prog W 0 (fun _ => true) true Tryd.f5.params.toList args.toList ds p := hA0
  rw [Tryd.params5] at hA hval
  obtain ⟨v0, v1, v2, d0, d1, d2, p0, p1, p2, rfl, rfl, rfl, h0, h1, h2⟩ := trodAll_three hA
  obtain ⟨m, rfl, rfl, rfl, hwm⟩ := open_msg (hval 0 23 v0 rfl rfl) h0
  obtain ⟨k, rfl, rfl, rfl, hwk⟩ := open_int Tryd.underlying3 (hval 1 3 v1 rfl rfl) h1
  obtain ⟨y, rfl, rfl, rfl, hwy⟩ := open_int Tryd.underlying5 (hval 2 5 v2 rfl rfl) h2
  have hg := both_of_laid hL
  obtain ⟨rfl, rfl⟩ := trodVars_none hV
  have e1 : Rows.wireChangedSpec.fn H ([m.dat, .lit (.int .i64 k), .lit (.int .u8 y)] ++ []) = { results := [.lit (.bool true)], args := [m.dat, .lit (.int .i64 k), .lit (.int .u8 y)] } := by simp [Rows.wireChangedSpec]
  refine (wireChanged_any m k y W hg (bounds_u8 hwy).1 (bounds_u8 hwy).2).mono fun e W' ⟨he, hb⟩ => ?_
  subst he
  refine ⟨_, rfl, _, _, _, [], [], [], hW', ?_, ?_, ?_, hb.frame _, fun h => by cases h⟩
  · rw [e1]; exact trodAll_mk1 (shut_bool Tryd.underlying4 true)
  · rw [e1]; exact trodAll_mk3 (shut_msg hwm) (shut_int Tryd.underlying3 hwk) (shut_int Tryd.underlying5 hwy)
  · rw [e1]; rfl

theorem wireChanged_holds : Rows.WireChangedSaid :=
  OpenClaim.holds_of_wide 5 Tryd.f5 rfl rfl rfl rfl rfl rfl rfl ⟨rfl, rfl, rfl, rfl, rfl⟩ rfl rfl rfl rfl rfl (by kernel_rfl) Tryd.func5 (by kernel_rfl)
    (of_decide_eq_true (by kernel_rfl)) (by unfold Func.isWrapper; rw [if_neg (of_decide_eq_false (by kernel_rfl))]; exact ⟨rfl, rfl⟩)
    (fun os started H enc _ => wireChanged_lifted os started H enc)

/-- The card: the row, its listed variable tied to the program's text. -/
theorem wireChanged_card : Rows.WireChangedCardSaid :=
  Claim7.holds_tied_plain_at .later [] [.data, .handle] true Rows.wireChangedCard.stood.harness true
    wireChanged_holds (fun _ h => by cases h) (by kernel_rfl) (fun _ h => by cases h) wireChanged_row_tie rfl ⟨rfl, rfl⟩ (by kernel_rfl) rfl
    (fun f fn hf hfn => by
      obtain rfl : f = 5 := Option.some.inj ((show Tryd.prog.funcNamed "weirkeep/weirkeeplaw03.WireChanged" = some 5 by kernel_rfl).symm.trans hf) |>.symm
      obtain rfl : fn = Tryd.f5 := (Option.some.inj (Tryd.func5.symm.trans hfn)).symm
      exact ⟨by kernel_rfl, fun j t ht => by
        rw [Tryd.params5] at ht
        have h3 : t = 23 ∨ t = 3 ∨ t = 5 := by
          rcases j with _ | _ | _ | j
          · exact .inl (by simpa using ht.symm)
          · exact .inr (.inl (by simpa using ht.symm))
          · exact .inr (.inr (by simpa using ht.symm))
          · simp at ht
        rcases h3 with rfl | rfl | rfl
        · exact (show Tryd.prog.wantsStandIn 23 = false by kernel_rfl)
        · exact (show Tryd.prog.wantsStandIn 3 = false by kernel_rfl)
        · exact (show Tryd.prog.wantsStandIn 5 = false by kernel_rfl)⟩)
    (by kernel_rfl)
#print axioms wireChanged_card
end Go.Proofs.YtjgicapjbibioaaDoor
