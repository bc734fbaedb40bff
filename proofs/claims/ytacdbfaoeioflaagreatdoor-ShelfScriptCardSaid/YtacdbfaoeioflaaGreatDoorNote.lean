/-
  note, Open (package shelf), by contracts.
-/
import Derived.Test.YtacdbfaoeioflaaGreatDoorPut9
import Derived.Test.YtacdbfaoeioflaaGreatDoorWrite
namespace Go.Proofs.YtacdbfaoeioflaaGreatDoor
open Go.RowKit

theorem infoI : (Tryz.prog.info? 3).map (fun i => (i.zero, i.size, i.bytes)) = some (some (.int .i64 0), 1, 8) := by kernel_rfl
theorem note_stored {w w2 : World} {sb mb pb : Nat} {vb : Value} {L : Lay} {odd : List Nat} {lost : Bool} {i g cap : Nat} {t : TypeId} (h : Sb w sb mb pb vb L odd lost)
    (hg : (w.alloc (.cells #[.int .i64 (i : Int)] t)).grownBy w2 vb.ownBlock) (ho : w2.ownsRow 0 3 1 (.slice (some ⟨g, 0, none⟩) (odd.length + 1) cap) (odd.length + 1) ((odd.map fun i : Nat => Value.int .i64 (i : Int)) ++ [.int .i64 (i : Int)])) (hat : vb.ownBlock = some g ∨ g = w.heap.size + 1) :
    Sb (w2.setCell ⟨sb, 2, none⟩ (.slice (some ⟨g, 0, none⟩) (odd.length + 1) cap)) sb mb pb (.slice (some ⟨g, 0, none⟩) (odd.length + 1) cap) L (odd ++ [i]) lost ∧
      Keeps (Ow sb mb vb) w (w2.setCell ⟨sb, 2, none⟩ (.slice (some ⟨g, 0, none⟩) (odd.length + 1) cap)) ∧ ∀ k, (Value.slice (some ⟨g, 0, none⟩) (odd.length + 1) cap).ownBlock = some k → vb.ownBlock = some k ∨ w.heap.size ≤ k := by
  have hB : ∀ k, k < w.heap.size → vb.ownBlock ≠ some k → w2.heap[k]? = w.heap[k]? := fun k hk hn => (hg.block k (by simp; omega) (fun e => hn e.symm)).trans (Below.heap_alloc w _ k hk)
  have hgs : g ≠ sb := fun e => by
    rcases hat with h1 | h1
    · exact h.ne_bad (by rw [h1, e])
    · have := h.row.lt; omega
  have hgm : g ≠ mb := fun e => by
    rcases hat with h1 | h1
    · exact h.ne_bad_map (by rw [h1, e])
    · have := h.tm.lt; omega
  refine ⟨⟨((h.row.of_block (hB _ h.row.lt h.ne_bad)).set 2 _).congr fun o ho => ?_, h.tm.of_block ((Below.heap_setCell _ _ _ _ h.ne).trans (hB _ h.tm.lt h.ne_bad_map)), ?_⟩, ?_, fun k hk => ?_⟩
  · unfold sf
    by_cases e : o = 2
    · subst e; simp
    · rw [if_neg e]
      have : o = 0 ∨ o = 1 ∨ o = 3 := by omega
      rcases this with rfl | rfl | rfl <;> simp
  · rw [List.length_append, List.map_append]
    exact owns_kept ho fun q hq => by
      simp only [Value.ownBlock, Option.some.injEq] at hq
      subst hq
      exact Below.heap_setCell _ _ _ _ hgs
  · exact ((Keeps.of_below (F := Ow sb mb vb) ((Below.refl _ w).alloc (Nat.le_refl _) (.cells #[.int .i64 (i : Int)] t))).grown hg (fun q hq => .inl (.inr (.inr hq)))).set (b := sb) (o := 2) (.inl (.inl rfl)) _
  · simp only [Value.ownBlock, Option.some.injEq] at hk
    subst hk
    rcases hat with h1 | h1
    · exact .inl h1
    · right; omega
set_option maxRecDepth 100000 in
set_option maxHeartbeats 2000000 in
theorem note_any {F : Nat → Prop} {w : World} {sb mb pb : Nat} {s : St} {L : Lay} {odd : List Nat} {lost : Bool} (h : SF w sb mb pb s L odd lost F) (i : Nat) (t : ByteArray) (hn : odd.length ≤ 1000) :
    Calls Tryz.prog 42 #[.pointer (some ⟨sb, 0, none⟩), .int .i64 (i : Int), .string t] w fun e w' => e = .returned (.tuple #[]) ∧ Sg F w w' sb mb pb s L (if pfx t then odd ++ [i] else odd) lost := by
  obtain ⟨i0, hi0, hz0, hz1, hz2⟩ := info_parts infoI
  have HP := Lib.hid (hasPrefix_any t w)
  have HS := Lib.hid (Sg.start h)
  cases hp : pfx t
  · rw [if_neg (by simp)]
    rw [hp] at HP
    clear hp h
    go_enter Tryz.func42, Tryz.ntmps42
    go_wp2_with fail
    go_at_call 74
    refine HP.out.mono ?_
    rintro e w' ⟨rfl, rfl⟩
    go_wp2
    go_end0
    exact ⟨rfl, HS.out⟩
  · rw [if_pos rfl]
    rw [hp] at HP
    obtain ⟨vb, hS, hk⟩ := h.own
    obtain ⟨-, -, c2, -⟩ := hS.cells
    have f2 := hS.row.frozen 2
    have hne := hS.ne_bad
    have hsl := hS.row.lt
    have HSb := Lib.hid hS
    have HK := Lib.hid hk
    have hlen : (odd.map fun i : Nat => Value.int .i64 (i : Int)).length = odd.length := by simp
    clear hp h hk HS
    go_enter Tryz.func42, Tryz.ntmps42
    go_wp2_with fail
    go_at_call 74
    refine HP.out.mono ?_
    rintro e w' ⟨rfl, rfl⟩
    go_wp2_with (at_builtin; refine wpList_append_lies _ rfl (.tmp 12) (.tmp 14) 54 rfl 0 3 i0 _ 1 8 Tryz.underlying54 hi0 hz0 hz1 hz2 rfl (by decide) vb _ _ rfl (HSb.out.bad.alloc _) ⟨w.heap.size, 0, none⟩ 1 1 [.int .i64 (i : Int)] rfl rfl (World.news_of_block (cs := #[.int .i64 (i : Int)]) (t := 3) (fr := (0, 0)) (heap_alloc_new w _)) (by simp [Value.oneCell']) (by decide) (by unfold maxLen; omega) (by omega) (Nat.zero_le _) (w.heap.size + 1) (by simp) ?_; intro g cap w2 hown2 hgrow hat hglt; (have hf2 : w2.frozen? ⟨sb, 2, none⟩ = false := by rw [hgrow.frozen_far _ (by simp; omega) (Ne.symm hne)]; exact (World.frozen?_alloc_old w _ ⟨sb, 2, none⟩ (Nat.ne_of_lt hsl)).trans f2); (have hc2 : w2.cell? ⟨sb, 2, none⟩ = some vb := by rw [hgrow.cell_far _ (by simp; omega) (Ne.symm hne)]; exact (World.cell?_alloc_lt w _ ⟨sb, 2, none⟩ hsl).trans c2); obtain ⟨q1, q2, q3⟩ := note_stored HSb.out hgrow hown2 hat; have R := Lib.hid (HK.out _ _ _ _ _ q1 q2 q3); clear q1 q2 q3 hgrow hown2 hat)
    go_end0
    exact ⟨rfl, R.out⟩
end Go.Proofs.YtacdbfaoeioflaaGreatDoor
