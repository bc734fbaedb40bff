/-
  slices.Clone at messages, the queue's all, the bag's List and New, by contracts.
-/
import Derived.Test.YthcoghgpdcnhlaaAdd
import Derived.WalkSpells
namespace Go.Proofs.Ythcoghgpdcnhlaa
open Go.RowKit

set_option maxRecDepth 100000 in
theorem clone_any (base : Nat) (s : Value) (l : List M) (w : World) (ho : Owns w base s l) (hl : l.length ≤ 1000) :
    Calls Try.prog 43 #[s] w fun e w' => ∃ v, e = .returned v ∧ Owns w' w.heap.size v l ∧ Below w.heap.size w w' := by
  obtain ⟨i0, hi0, hz0, hz1, hz2⟩ := info_parts infoMsg
  have hq := fun a n c => Lib.run_eql_slice_nil (P := Try.prog) w 27 31 a n c 0 0 Try.underlying27
  rcases ho.form with ⟨rfl, rfl⟩ | ⟨g, cap, rfl, hbg, hgl, -⟩
  · clear ho
    go_enter Try.func43, Try.ntmps43
    go_wp2
    go_ret
    exact ⟨_, rfl, Owns.nil _ _, Below.refl _ _⟩
  · have hb1 : Below w.heap.size w (w.alloc (.cells #[] 31)) := (Below.refl _ _).alloc (Nat.le_refl _) _
    have HB1 := Lib.hid hb1
    have HN := Lib.hid (ho.below hb1).news
    have HE := Lib.hid (World.ownsRow_lit (base := w.heap.size) (e := 31) (size := 8) w #[] 0 (Nat.le_refl _) (by simp) rfl)
    clear ho hb1
    go_enter Try.func43, Try.ntmps43
    go_wp2_with (at_builtin; refine wpList_append_own _ rfl (.tmp 5) (.tmp 6) 27 rfl w.heap.size 31 i0 _ 8 72 Try.underlying27 hi0 hz0 hz1 hz2 rfl (by decide) (.slice (some ⟨w.heap.size, 0, none⟩) 0 0) 0 [] rfl HE.out ⟨g, 0, none⟩ l.length cap (flat l) rfl (flat_length l) HN.out (flat_oneCell _) (by unfold maxLen; omega) (by omega) (by simp) ?_; intro v w2 hown2 hgrow _)
    go_ret
    exact ⟨_, rfl, by simpa [Owns] using hown2, HB1.out.grown hgrow (by simp) (fun k hk => by simp [Value.ownBlock] at hk; omega)⟩

set_option maxRecDepth 100000 in
theorem all_any (b : Nat) (row : Option Nat) (l : List M) (w : World) (hB : Bg w b row l) (hl : l.length ≤ 1000) :
    Calls Try.prog 33 #[.pointer (some ⟨b, 0, none⟩)] w fun e w' => ∃ v, e = .returned v ∧ Owns w' w.heap.size v l ∧ Below w.heap.size w w' := by
  obtain ⟨s, hs, hf, ho, hr⟩ := hB
  have HO := Lib.hid ho
  clear ho hr hf
  go_enter Try.func33, Try.ntmps33
  go_wp2_with fail
  go_at_call 43
  refine (clone_any _ s l _ HO.out hl).mono ?_
  rintro e w' ⟨v, rfl, h1, h2⟩
  have H1 := Lib.hid h1
  have H2 := Lib.hid h2
  clear h1 h2
  go_wp2
  go_ret
  exact ⟨_, rfl, H1.out, H2.out⟩

set_option maxRecDepth 100000 in
theorem list_any (b : Nat) (row : Option Nat) (l : List M) (w : World) (hB : Bg w b row l) (hl : l.length ≤ 1000) :
    Calls Try.prog 14 #[.pointer (some ⟨b, 0, none⟩)] w fun e w' => ∃ v, e = .returned v ∧ Owns w' w.heap.size v l ∧ Below w.heap.size w w' := by
  have hbl := hB.lt
  have HB := Lib.hid hB
  obtain ⟨s, hs, -⟩ := hB
  go_enter Try.func14, Try.ntmps14
  go_wp2_with fail
  go_at_call 33
  refine (all_any _ _ l _ HB.out hl).mono ?_
  rintro e w' ⟨v, rfl, h1, h2⟩
  have H1 := Lib.hid h1
  have H2 := Lib.hid h2
  clear h1 h2
  go_wp2
  go_ret
  exact ⟨_, rfl, H1.out, H2.out⟩

theorem new_any (w : World) :
    Calls Try.prog 10 #[] w fun e w' => e = .returned (.pointer (some ⟨w.heap.size, 0, none⟩)) ∧ Bg w' w.heap.size none [] ∧ Below w.heap.size w w' ∧ w.heap.size < w'.heap.size := by
  go_enter Try.func10, Try.ntmps10
  go_wp2
  go_ret
  exact ⟨rfl, ⟨.slice none 0 0, by simp, by simp, Owns.nil _ _, rfl⟩, by go_grown, by simp⟩
end Go.Proofs.Ythcoghgpdcnhlaa
