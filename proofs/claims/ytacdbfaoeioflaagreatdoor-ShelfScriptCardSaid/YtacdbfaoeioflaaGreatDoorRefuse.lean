/-
  refusals (package shelf): all that is in the way of a Put, by a contract.
-/
import Derived.Test.YtacdbfaoeioflaaGreatDoorPutW
namespace Go.Proofs.YtacdbfaoeioflaaGreatDoor
open Go.RowKit

/-- The numbers of what is in the way. -/
def refL (L : Lay) (gone : Bool) (b : Bk) : List Int :=
  wrongL b 1 ++ (if gone then [70] else []) ++ (if newer L b then [] else [5]) ++ (if cnt L < L.length then [] else [2])
theorem wrongL_no70 (b : Bk) (m : Int) : (70 : Int) ∉ wrongL b m ∧ (5 : Int) ∉ wrongL b m ∧ (2 : Int) ∉ wrongL b m := by
  unfold wrongL
  refine ⟨?_, ?_, ?_⟩ <;> (intro h; simp only [List.mem_append] at h; rcases h with ((h | h) | h) | h <;> split at h <;> simp at h)
theorem wrong_mem (b : Bk) (m : Int) : ((1 : Int) ∈ wrongL b m ↔ refE b m = 1) ∧ ((1 : Int) ∉ wrongL b m → ((11 : Int) ∈ wrongL b m ↔ refE b m = 11)) := by
  have h := find_wrong b m
  unfold findE at h
  rw [List.find?_cons] at h
  by_cases h1 : (1 : Int) ∈ wrongL b m
  · rw [decide_eq_true h1] at h
    simp only [Option.getD_some] at h
    exact ⟨⟨fun _ => h.symm, fun _ => h1⟩, fun h2 => absurd h1 h2⟩
  · rw [decide_eq_false h1] at h
    rw [List.find?_cons] at h
    by_cases h2 : (11 : Int) ∈ wrongL b m
    · rw [decide_eq_true h2] at h
      simp only [Option.getD_some] at h
      exact ⟨⟨fun h3 => absurd h3 h1, fun h3 => by omega⟩, fun _ => ⟨fun _ => h.symm, fun _ => h2⟩⟩
    · rw [decide_eq_false h2] at h
      simp at h
      exact ⟨⟨fun h3 => absurd h3 h1, fun h3 => by omega⟩, fun _ => ⟨fun h3 => absurd h3 h2, fun h3 => by omega⟩⟩
theorem refE_in (b : Bk) (m : Int) : refE b m = 0 ∨ refE b m = 1 ∨ refE b m = 11 := by
  unfold refE; split
  · split
    · exact .inr (.inr rfl)
    · exact .inl rfl
  · exact .inr (.inl rfl)
theorem find_ref (L : Lay) (gone : Bool) (b : Bk) : findE [1, 11, 70, 5, 2] (refL L gone b) = preE L gone b := by
  obtain ⟨n1, n2, n3⟩ := wrongL_no70 b 1
  obtain ⟨m1, m2⟩ := wrong_mem b 1
  have hl := low_le L
  have hc := cnt_le L
  have hf := @cnt_full L
  unfold preE
  rcases refE_in b 1 with hr | hr | hr
  · have k1 : (1 : Int) ∉ wrongL b 1 := fun h => by have := m1.1 h; omega
    have k2 : (11 : Int) ∉ wrongL b 1 := fun h => by have := (m2 k1).1 h; omega
    rw [hr, if_neg (by simp)]
    unfold findE refL
    cases gone <;> cases hn : newer L b <;> by_cases h2 : cnt L < L.length
    all_goals
      simp [k1, k2, n1, n2, n3, h2]
      try omega
    all_goals
      first
        | (rw [if_neg]; intro h; omega)
        | (rw [if_pos]; omega)
  · have k1 := m1.2 hr
    rw [hr, if_pos (by simp)]
    unfold findE refL
    simp [k1]
  · have k1 : (1 : Int) ∉ wrongL b 1 := fun h => by have := m1.1 h; omega
    have k2 := (m2 k1).2 hr
    rw [hr, if_pos (by simp)]
    unfold findE refL
    cases gone <;> cases hn : newer L b <;> by_cases h2 : cnt L < L.length
    all_goals
      simp [k1, k2, h2]
theorem es_cells {w : World} {d : Nat} {v : Value} {es : List Int} (h : ES w d v es) : okE v := by
  rcases h.form with ⟨rfl, _⟩ | ⟨x, rfl⟩ | ⟨b, rfl⟩ <;> rfl
attribute [local go_sem ↓] Go.wp_at_zero Go.wp_at_succ wp_build4

set_option maxRecDepth 100000 in
set_option maxHeartbeats 4000000 in
theorem refuse_any {F : Nat → Prop} {w : World} {sb mb pb : Nat} {s : St} {L : Lay} {odd : List Nat} {lost : Bool} (h : SF w sb mb pb s L odd lost F) (hlost : lost = true → s.gone = true) (hL : s.is.length = L.length) {b : Bk} (hid : i64 b.id) :
    Calls Tryz.prog 48 #[.pointer (some ⟨sb, 0, none⟩), b.val] w fun e w' => ∃ v, e = .returned v ∧ ES w' 2 v (refL L s.gone b) ∧ Below w.heap.size w w' := by
  have hb0 : Below w.heap.size w (w.alloc (.cells b.cells 37)).drew := ((Below.refl _ _).alloc (Nat.le_refl _) _).drew
  have H0 := Lib.hid (h.below hb0)
  have X0 := Lib.hid (show BC (w.alloc (.cells b.cells 37)).drew w.heap.size b from BC.new w b _)
  have B0 := Lib.hid hb0
  have hhi := h.good.hi
  have hcl := cnt_le L
  obtain ⟨p1, hp1⟩ : ∃ p, (!s.gone) = p := ⟨_, rfl⟩
  obtain ⟨p2, hp2⟩ : ∃ p, newer L b = p := ⟨_, rfl⟩
  obtain ⟨p3, hp3⟩ : ∃ p, decide (0 < (s.is.length : Int) - (cnt L : Int)) = p := ⟨_, rfl⟩
  have hLL : refL L s.gone b = wrongL b 1 ++ (if p1 then [] else [70]) ++ (if p2 then [] else [5]) ++ (if p3 then [] else [2]) := by
    unfold refL
    rw [← hp1, ← hp2, ← hp3, hL]
    by_cases hc : cnt L < L.length
    · rw [if_pos hc, decide_eq_true (by omega : 0 < (L.length : Int) - (cnt L : Int))]
      cases s.gone <;> simp
    · rw [if_neg hc, decide_eq_false (by omega : ¬ 0 < (L.length : Int) - (cnt L : Int))]
      cases s.gone <;> simp
  have HL := Lib.hid hLL
  have KW := Lib.hid (fun w => wrong_any b 1 w)
  have KD := Lib.hid (fun w (h : SF w sb mb pb s L odd lost F) => sdead_any h hlost)
  have KN := Lib.hid (fun w (h : SF w sb mb pb s L odd lost F) => hp2 ▸ isNew_any h b hid)
  have KF := Lib.hid (fun w (h : SF w sb mb pb s L odd lost F) => free_any h (by omega))
  obtain ⟨v1, hv1⟩ : ∃ v, unl p1 70 = v := ⟨_, rfl⟩
  obtain ⟨v2, hv2⟩ : ∃ v, unl p2 5 = v := ⟨_, rfl⟩
  obtain ⟨v3, hv3⟩ : ∃ v, unl p3 2 = v := ⟨_, rfl⟩
  have U1 := Lib.hid (fun w => hv1 ▸ unless_any p1 70 w)
  have U2 := Lib.hid (fun w => hv2 ▸ unless_any p2 5 w)
  have U3 := Lib.hid (fun w => hv3 ▸ unless_any p3 2 w)
  have E1 := Lib.hid (hv1 ▸ unl_es p1 70)
  have E2 := Lib.hid (hv2 ▸ unl_es p2 5)
  have E3 := Lib.hid (hv3 ▸ unl_es p3 2)
  have C1 : okE v1 := hv1 ▸ unl_cells p1 70
  have C2 : okE v2 := hv2 ▸ unl_cells p2 5
  have C3 : okE v3 := hv3 ▸ unl_cells p3 2
  generalize hfr : (s.is.length : Int) - (cnt L : Int) = fr at hp3 KF
  generalize hgn : s.gone = gn at hp1 KD HL
  clear hp2 hv1 hv2 hv3 hLL hb0 h hlost hL hhi hcl hfr hgn
  go_enter Tryz.func48, Tryz.ntmps48
  go_wp2_with fail
  go_region_held3 (fun w' => w'.cell? ⟨w.heap.size, 0, none⟩ = some (.int .i64 b.id) ∧ w'.cell? ⟨w.heap.size, 1, none⟩ = some (.int .i64 b.ver) ∧ w'.cell? ⟨w.heap.size, 2, none⟩ = some (.string b.data))
    (first | exact X0.out | exact X1.out | exact X2.out | exact X3.out | exact X4.out | exact X5.out | fail)
    (first
      | (go_at_call 78; with_reducible refine (KW.out _).mono ?_; rintro e w1 ⟨v0, rfl, k1, k2⟩; have V1 := Lib.hid k1; have C0 := es_cells k1; have X1 := Lib.hid (X0.out.below k2); have H1 := Lib.hid (H0.out.below k2); have B1 := Lib.hid (B0.out.trans (k2.mono B0.out.size)); clear k1 k2)
      | (go_at_call 59; with_reducible refine (KD.out _ H1.out).mono ?_; rintro e w' ⟨rfl, rfl⟩)
      | (go_at_call 79; with_reducible refine (U1.out _).mono ?_; rintro e w' ⟨rfl, rfl⟩)
      | (go_at_call 43; with_reducible refine (KN.out _ H1.out).mono ?_; rintro e w2 ⟨rfl, k2⟩; have V2 := Lib.hid (V1.out.below k2); have X2 := Lib.hid (X1.out.below k2); have H2 := Lib.hid (H1.out.below k2); have B2 := Lib.hid (B1.out.trans (k2.mono B1.out.size)); clear k2)
      | (go_at_call 79; with_reducible refine (U2.out _).mono ?_; rintro e w' ⟨rfl, rfl⟩)
      | (go_at_call 32; with_reducible refine (KF.out _ H2.out).mono ?_; rintro e w3 ⟨rfl, k2⟩; have V3 := Lib.hid (V2.out.below k2); have X3 := Lib.hid (X2.out.below k2); have B3 := Lib.hid (B2.out.trans (k2.mono B2.out.size)); (have hA := four_args V3.out (ES.up E1.out 1) (ES.up E2.out 1) (ES.up E3.out 1)); have HJ := Lib.hid (join_es 1 _ 4 _ 4 _ hA rfl); have X4 := Lib.hid (X3.out.below (((Below.refl _ _).alloc (Nat.le_refl _) (.cells #[v0, v1, v2, v3] 91)))); have B4 := Lib.hid (B3.out.alloc B3.out.size (.cells #[v0, v1, v2, v3] 91)); clear k2 hA)
      | (go_at_call 79; with_reducible refine (U3.out _).mono ?_; rintro e w' ⟨rfl, rfl⟩)
      | (go_at_call 77; with_reducible refine HJ.out.mono ?_; rintro e wj ⟨v, rfl, k1, k2⟩; have X5 := Lib.hid (X4.out.below k2); have EJ := Lib.hid k1; have BJ := Lib.hid (B4.out.trans (k2.mono B4.out.size)); clear k1 k2)
      | fail)
  go_wp2
  go_ret
  refine ⟨_, rfl, ?_, BJ.out⟩
  rw [HL.out]
  simpa [List.flatMap_cons] using EJ.out
end Go.Proofs.YtacdbfaoeioflaaGreatDoor
