/-
  replace (package extent), by a contract.
-/
import Derived.Test.YtlffgfkcgldekaaApp
namespace Go.Proofs.Ytlffgfkcgldekaa
open Go.RowKit

/-- The field is stored anew. -/
theorem PBv.stored {w w1 : World} {b g g' cap cap' : Nat} {s s' : St} (h : PBv w b s g cap) (hb : Below w.heap.size w w1) (hn : s'.n = s.n) (hl : Lst w1 g' cap' (runs s')) (hg : g' = g ∨ w.heap.size ≤ g') :
    Goes (fun k => k = b ∨ k = g) w (w1.setCell ⟨b, 1, none⟩ (.slice (some ⟨g', 0, none⟩) (runs s').length cap')) (PB (w1.setCell ⟨b, 1, none⟩ (.slice (some ⟨g', 0, none⟩) (runs s').length cap')) b s') := by
  have h1 := h.below hb
  have hne : b ≠ g' := by
    rcases hg with rfl | hg
    · exact h.ne
    · have := h.lt; omega
  have hP : PBv (w1.setCell ⟨b, 1, none⟩ (.slice (some ⟨g', 0, none⟩) (runs s').length cap')) b s' g' cap' := by
    refine ⟨?_, hne, hl.block (Below.heap_setCell _ _ _ _ (fun e => hne e.symm)) (by simp)⟩
    rw [heap_setCell_same _ _ _ _ _ _ h1.row, hn]
    rfl
  refine ⟨_, hP.pb, fun k hk => ?_, (Keeps.of_below hb).set (.inl (.inl rfl)) _⟩
  rcases hk with rfl | rfl
  · exact .inl (.inl rfl)
  · rcases hg with rfl | hg
    · exact .inl (.inr rfl)
    · exact .inr hg
theorem Lst.take {w : World} {g cap : Nat} {l : List Rg} (h : Lst w g cap l) (k : Nat) : Lst w g (l.take k).length (l.take k) :=
  ⟨h.lt, Nat.le_refl _, by have := h.le; have := h.max; rw [List.length_take]; omega, fun i m hi => h.at_ i m (by rw [List.getElem?_take] at hi; split at hi; exact hi; cases hi)⟩

theorem PBv.storedA {w w1 : World} {b g g' cap cap' : Nat} {s s' : St} (h : PBv w b s g cap) (hb : Below w.heap.size w w1) (hn : s'.n = s.n) (hA : App w g w1 (.slice (some ⟨g', 0, none⟩) (runs s').length cap') (runs s')) :
    Goes (fun k => k = b ∨ k = g) w (w1.setCell ⟨b, 1, none⟩ (.slice (some ⟨g', 0, none⟩) (runs s').length cap')) (PB (w1.setCell ⟨b, 1, none⟩ (.slice (some ⟨g', 0, none⟩) (runs s').length cap')) b s') := by
  obtain ⟨g2, cap2, e, hl, hg⟩ := hA.form
  simp only [Value.slice.injEq, Option.some.injEq, Addr.mk.injEq, and_true, true_and] at e
  obtain ⟨rfl, rfl⟩ := e
  exact h.stored hb hn hl hg

set_option maxRecDepth 100000 in
set_option maxHeartbeats 4000000 in
theorem replace_any (b : Nat) (s s' : St) (g cap first behind : Nat) (x : Value) (m : List Rg) (w : World) (h : PBv w b s g cap) (hx : Srcs w x m) (hf : first ≤ (runs s).length) (hb : behind ≤ (runs s).length) (hm : m.length ≤ 4096) (hl : (runs s).length ≤ 4096) (hn : s'.n = s.n) (he : (runs s).take first ++ (m ++ (runs s).drop behind) = runs s') :
    Calls Try.prog 36 #[.pointer (some ⟨b, 0, none⟩), .int .i64 (first : Int), .int .i64 (behind : Int), x] w fun e w' => e = .returned (.tuple #[]) ∧ Goes (fun k => k = b ∨ k = g) w w' (PB w' b s') := by
  have HC := Lib.hid (fun W (hW : Below w.heap.size w W) => (h.below hW).cells.2)
  have HX := Lib.hid (fun W (hW : Below w.heap.size w W) => hx.below hW)
  have hlt1 : ((runs s).take first).length = first := by rw [List.length_take]; omega
  have hld : ((runs s).drop behind).length = (runs s).length - behind := List.length_drop
  have HA := Lib.hid (fun W (hW : Below w.heap.size w W) => show App w g W (.slice (some ⟨g, 0, none⟩) first first) ((runs s).take first) from .inl ⟨by rw [hlt1], h.l.lt, by have := (h.l.below hW).take first; exact this⟩)
  have HF := Lib.hid (fun w1 (hw : Below w.heap.size w w1) g' cap' (hA : App w g w1 (.slice (some ⟨g', 0, none⟩) (runs s').length cap') (runs s')) => h.storedA hw hn hA)
  have hcap := h.l.le
  obtain ⟨sv, HD⟩ : ∃ sv, ((behind = cap → sv = .slice (some ⟨g, 0, none⟩) 0 0) ∧ (behind < cap → sv = .slice (some ⟨g, behind * 2, none⟩) ((runs s).length - behind) (cap - behind))) ∧ Hid (∀ W (_ : Below w.heap.size w W), Srcs W sv ((runs s).drop behind)) := by
    by_cases hbc : behind = cap
    · have hbl : (runs s).length = behind := by omega
      exact ⟨_, ⟨fun _ => rfl, fun h => by omega⟩, fun W _ => by rw [← hbl, List.drop_length]; exact srcs_empty W g 0 0⟩
    · exact ⟨_, ⟨fun h => absurd h hbc, fun _ => rfl⟩, fun W hW => (h.l.below hW).srcs behind⟩
  obtain ⟨⟨hs1, hs2⟩, HD⟩ := HD
  obtain ⟨lm, hlm⟩ : ∃ lm, (runs s).take first ++ m = lm := ⟨_, rfl⟩
  rw [← List.append_assoc, hlm] at he
  have hk1 : lm.length ≤ 100000 := by rw [← hlm, List.length_append, hlt1]; omega
  have hk2 : (runs s').length ≤ 100000 := by rw [← he, List.length_append, hld]; have : lm.length = first + m.length := by rw [← hlm, List.length_append, hlt1]
                                             omega
  have H0 := Lib.hid (show Below w.heap.size w w.drew from (Below.refl _ _).drew)
  have HE := Lib.hid he
  have HLM := Lib.hid hlm
  clear h hx he hlt1 hld hn hlm
  generalize hA1 : (runs s).take first = l1 at *
  generalize hA2 : (runs s).drop behind = l2 at *
  clear hA1 hA2
  generalize (runs s).length = n at *
  generalize hr : runs s' = ls at *
  obtain ⟨kl, hkl⟩ : ∃ k, lm.length = k := ⟨_, rfl⟩
  obtain ⟨nl, hnl⟩ : ∃ k, ls.length = k := ⟨_, rfl⟩
  rw [hkl] at hk1
  rw [hnl] at hk2 HF
  have HK := Lib.hid hkl
  have HN := Lib.hid hnl
  clear hkl hnl hr
  have hfI : (first : Int) ≤ (n : Int) := by omega
  have hf0 : (0 : Int) ≤ (first : Int) := by omega
  have hbI : (behind : Int) ≤ (n : Int) := by omega
  have hb0 : (0 : Int) ≤ (behind : Int) := by omega
  have hfc : (first : Int) ≤ (cap : Int) := by omega
  obtain ⟨c1, c2⟩ := HC.out _ H0.out
  obtain ⟨c1', c2'⟩ := HC.out _ (Below.refl _ _)
  by_cases hbc : behind = cap
  · have e := hs1 hbc
    clear hs1 hs2
    subst e hbc
    obtain rfl : n = behind := by omega
    go_enter Try.func36, Try.ntmps36
    go_wp2
    go_region_law (first
      | (refine step_app2 rfl (.tmp 15) (.tmp 16) rfl (HA.out _ H0.out) H0.out (HX.out _ H0.out) hk1 HLM.out HK.out ?_; intro g1 cap1 w1 hA hB; (obtain ⟨z1, z2⟩ := HC.out _ hB); have A1 := Lib.hid hA; have B1 := Lib.hid hB; clear hA hB)
      | (refine step_app2 rfl (.tmp 17) (.tmp 23) rfl A1.out B1.out (HD.out _ B1.out) hk2 HE.out HN.out ?_; intro g2 cap2 w2 hA hB; (obtain ⟨y1, y2⟩ := HC.out _ hB); have A2 := Lib.hid hA; have B2 := Lib.hid hB; clear hA hB)
      | fail)
    all_goals
      go_wp2
      go_end0
      exact ⟨rfl, HF.out _ B2.out _ _ A2.out⟩
  · have e := hs2 (by omega)
    have hbc' : behind < cap := by omega
    have hbc2 : ¬ cap = behind := fun e => hbc e.symm
    clear hs1 hs2
    subst e
    go_enter Try.func36, Try.ntmps36
    go_wp2
    go_region_law (first
      | (refine step_app2 rfl (.tmp 15) (.tmp 16) rfl (HA.out _ H0.out) H0.out (HX.out _ H0.out) hk1 HLM.out HK.out ?_; intro g1 cap1 w1 hA hB; (obtain ⟨z1, z2⟩ := HC.out _ hB); have A1 := Lib.hid hA; have B1 := Lib.hid hB; clear hA hB)
      | (refine step_app2 rfl (.tmp 17) (.tmp 23) rfl A1.out B1.out (HD.out _ B1.out) hk2 HE.out HN.out ?_; intro g2 cap2 w2 hA hB; (obtain ⟨y1, y2⟩ := HC.out _ hB); have A2 := Lib.hid hA; have B2 := Lib.hid hB; clear hA hB)
      | fail)
    all_goals
      go_wp2
      go_end0
      exact ⟨rfl, HF.out _ B2.out _ _ A2.out⟩
end Go.Proofs.Ytlffgfkcgldekaa
