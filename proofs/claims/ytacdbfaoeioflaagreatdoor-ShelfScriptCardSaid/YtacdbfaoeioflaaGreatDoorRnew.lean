/-
  The document's own New (weirkeepref07), by a contract.
-/
import Derived.Test.YtacdbfaoeioflaaGreatDoorAppend
namespace Go.Proofs.YtacdbfaoeioflaaGreatDoor
open Go.RowKit

theorem info_str : (Tryz.prog.info? 9).map (fun i => (i.zero, i.size, i.bytes)) = some (some (.string ⟨#[]⟩), 1, 16) := by kernel_rfl

/-- A plate of j sectors so far. -/
def grown (j : Nat) : St := ⟨List.replicate j (zeros 32), [], false, 0, 0, 0⟩
theorem fresh_grown (n : Int) : fresh n = grown (size0 n) := rfl
theorem scells_grown (j : Nat) : scells (List.replicate (j + 1) (zeros 32)) = scells (List.replicate j (zeros 32)) ++ [.string (str (zeros 32))] := by
  unfold scells
  rw [List.replicate_succ', List.flatMap_append]
  rfl

/-- What lasts is another row. -/
theorem RBv.setIs {w : World} {b : Nat} {s : St} {vi vw u : Value} {is : List (List UInt8)} (hr : w.rowIs b 61 6 (rf s vi vw)) (hw : w.ownsRow 0 100 2 vw s.wait.length (s.wait.flatMap rcells)) (ho : w.ownsRow 0 9 1 u is.length (scells is)) : RBv (w.setCell ⟨b, 0, none⟩ u) b { s with is := is } u vw :=
  ⟨(hr.set 0 u).congr fun o _ => by unfold rf; by_cases e : o = 0 <;> simp [e], owns_kept ho fun g hg => Below.heap_setCell _ _ _ _ (fun e => owns_ne ho hr (by decide) (by rw [hg]; exact congrArg some e)), owns_kept hw fun g hg => Below.heap_setCell _ _ _ _ (fun e => owns_ne hw hr (by decide) (by rw [hg]; exact congrArg some e))⟩
/-- A text is appended to texts in a row of their own. -/
theorem append_str (w : World) (v : Value) (n : Nat) (xs : List Value) (hown : w.ownsRow 0 9 1 v n xs) (x : ByteArray) (hn : n ≤ 1000) :
    ∃ g cap w2, (Builtin.append_ #[58, 58] 58 #[v, .slice (some ⟨w.heap.size, 0, none⟩) 1 1]).run Tryz.prog (w.alloc (.cells #[.string x] 9)) = .ok (.slice (some ⟨g, 0, none⟩) (n + 1) cap) w2 ∧
      w2.ownsRow 0 9 1 (.slice (some ⟨g, 0, none⟩) (n + 1) cap) (n + 1) (xs ++ [.string x]) ∧ (w.alloc (.cells #[.string x] 9)).grownBy w2 v.ownBlock ∧ (v.ownBlock = some g ∨ g = w.heap.size + 1) := by
  obtain ⟨i0, hi0, hz0, hz1, hz2⟩ := info_parts info_str
  obtain ⟨g, cap, w2, h1, h2, h3, h4, -⟩ := run_append_lies (P := Tryz.prog) (w.alloc (.cells #[.string x] 9)) 58 58 0 9 i0 _ 1 16 Tryz.underlying58 hi0 hz0 hz1 hz2 rfl (by omega) v n xs (owns_below hown ((Below.refl _ w).alloc (Nat.le_refl _) _))
    ⟨w.heap.size, 0, none⟩ 1 1 [.string x] rfl (fun q u hu => World.news_of_block (cs := #[.string x]) (t := 9) (fr := (0, 0)) (heap_alloc_new w _) q u hu) (fun u hu => by simp at hu; subst hu; rfl) (by omega) (by unfold maxLen; omega) (by omega) (by simp) (w.heap.size + 1) (by simp)
  exact ⟨g, cap, w2, h1, h2, h3, h4⟩

attribute [local go_sem ↓] Go.wp_at_zero Go.wp_at_succ wp_appL

set_option maxRecDepth 100000 in
set_option maxHeartbeats 4000000 in
theorem rnew_m (n : Int) (m : Nat) (w : World) (hm : m ≤ 128) (hcase : (n < 4 ∧ m = 4) ∨ (128 < n ∧ m = 128) ∨ (4 ≤ n ∧ n ≤ 128 ∧ n = (m : Int))) :
    Calls Tryz.prog 10 #[.int .i64 n] w fun e w' => e = .returned (.pointer (some ⟨w.heap.size, 0, none⟩)) ∧ Goes (fun _ => False) w w' (RB w' w.heap.size (grown m)) := by
  obtain ⟨i0, hi0, hz0, hz1, hz2⟩ := info_parts info_str
  have HI := Lib.hid (And.intro hi0 (And.intro hz0 (And.intro hz1 hz2)))
  have hr0 : (w.alloc (.cells #[.slice none 0 0, .slice none 0 0, .bool false, .int .i64 0, .int .u64 0, .int .i64 0] 61)).rowIs w.heap.size 61 6 (rf (grown 0) (.slice none 0 0) (.slice none 0 0)) :=
    World.rowIs_alloc w _ _ _ (fun q hq => by match q, hq with | 0, _ | 1, _ | 2, _ | 3, _ | 4, _ | 5, _ => rfl)
  have H0 := Lib.hid (show RBv (w.alloc (.cells #[.slice none 0 0, .slice none 0 0, .bool false, .int .i64 0, .int .u64 0, .int .i64 0] 61)) w.heap.size (grown 0) (.slice none 0 0) (.slice none 0 0) from ⟨hr0, World.ownsRow_nil _ _ _ _, World.ownsRow_nil _ _ _ _⟩)
  have K0 := Lib.hid (show Below w.heap.size w (w.alloc (.cells #[.slice none 0 0, .slice none 0 0, .bool false, .int .i64 0, .int .u64 0, .int .i64 0] 61)) from (Below.refl _ _).alloc (Nat.le_refl _) _)
  have HZ := Lib.hid (fun w => rzeros_any 32 (by omega) w)
  have e32 : ((32 : Nat) : Int) = 32 := rfl
  rw [e32] at HZ
  have HCS := Lib.hid hcase
  have hzl : w.heap.size < (w.alloc (.cells #[.slice none 0 0, .slice none 0 0, .bool false, .int .i64 0, .int .u64 0, .int .i64 0] 61)).heap.size := by simp
  clear hr0 hi0 hz0 hz1 hz2 e32 hcase
  go_enter Tryz.func10, Tryz.ntmps10
  go_wp2
  go_loopw [4] (fun jv wr => ∃ (j : Nat) (v : Value), j ≤ m ∧ jv = .int .i64 j ∧ RBv wr w.heap.size (grown j) v (.slice none 0 0) ∧ (∀ k, v.ownBlock = some k → w.heap.size ≤ k) ∧ Below w.heap.size w wr) (fun jv _ => m - (intOf jv).toNat)
  case atStart => exact ⟨0, _, Nat.zero_le _, rfl, H0.out, fun k hk => by simp [Value.ownBlock] at hk, K0.out⟩
  case round =>
    obtain ⟨j, v, hj, rfl, hP, hv, hK⟩ := hrel
    have P1 := Lib.hid hP
    have V1 := Lib.hid hv
    have K1 := Lib.hid hK
    have hbl := hP.row.lt
    clear hP hv hK H0 K0 hzl
    by_cases hlt : j < m
    · have hbd : Below wr.heap.size wr wr.drew := (Below.refl _ _).drew
      have Pd := Lib.hid (P1.out.below hbd)
      have Bd := Lib.hid K1.out.drew
      have cd := P1.out.cells.1
      have HNE := Lib.hid P1.out.neI
      clear hbd
      have hj1 : j ≤ 127 := by omega
      rcases HCS.out with ⟨hc1, hmm⟩ | ⟨hc1, hmm⟩ | ⟨hc1, hc2, hmm⟩
      · have hlI : (j : Int) < 4 := by omega
        clear hmm
        go_wp2
        all_goals go_region_with (go_at_call 38; refine (HZ.out _).mono ?_; rintro e wz ⟨rfl, kz⟩; have Pz := Lib.hid (Pd.out.below kz); have cz := (Pd.out.below kz).cells.1; have Bz := Lib.hid (Bd.out.trans (kz.mono Bd.out.size)); (obtain ⟨g, cap, w2, hrun, hown2, hgrow, hat⟩ := append_str wz v (grown j).is.length (scells (grown j).is) Pz.out.is (str (zeros 32)) (by simp [grown]; omega)); (obtain ⟨ha1, ha2, ha3⟩ := app_of hrun); clear hrun; (have Pa := Pz.out.below ((Below.refl _ wz).alloc (Nat.le_refl _) (.cells #[.string (str (zeros 32))] 9))); have ca := Pa.cells.1; (have hf2 : w2.frozen? ⟨w.heap.size, 0, none⟩ = false := by rw [hgrow.frozen_far _ Pa.row.lt (Ne.symm HNE.out)]; exact Pa.row.frozen 0); (have hc3 : w2.cell? ⟨w.heap.size, 0, none⟩ = some v := by rw [hgrow.cell_far _ Pa.row.lt (Ne.symm HNE.out)]; exact ca); (have hr3 := Lib.hid (Pa.row.of_block (hgrow.block w.heap.size Pa.row.lt (fun e => HNE.out e.symm)))); have HO := Lib.hid hown2; have HW := Lib.hid hgrow; have HT := Lib.hid hat; clear kz Pa hown2 hgrow hat)
        all_goals
          go_wp2
          go_roundw
          case rel =>
            refine ⟨j + 1, .slice (some ⟨g, 0, none⟩) ((grown j).is.length + 1) cap, by omega, by go_num, ?_, ?_, ?_⟩
            · exact RBv.setIs (s := grown j) (is := List.replicate (j + 1) (zeros 32)) hr3.out (World.ownsRow_nil _ _ _ _) (by rw [scells_grown]; simpa [grown] using HO.out)
            · intro k hk
              simp only [Value.ownBlock, Option.some.injEq] at hk
              subst hk
              rcases HT.out with h | h
              · exact V1.out _ h
              · have := Bz.out.size; omega
            · exact ((Bz.out.alloc Bz.out.size _).grown HW.out (by have := Bz.out.size; simp; omega) (fun k hk => V1.out k hk)).setCell (p := ⟨w.heap.size, 0, none⟩) (Nat.le_refl _) _
          case measure => simp [intOf]; omega
      · have hlI : (j : Int) < 128 := by omega
        clear hmm
        go_wp2
        all_goals go_region_with (go_at_call 38; refine (HZ.out _).mono ?_; rintro e wz ⟨rfl, kz⟩; have Pz := Lib.hid (Pd.out.below kz); have cz := (Pd.out.below kz).cells.1; have Bz := Lib.hid (Bd.out.trans (kz.mono Bd.out.size)); (obtain ⟨g, cap, w2, hrun, hown2, hgrow, hat⟩ := append_str wz v (grown j).is.length (scells (grown j).is) Pz.out.is (str (zeros 32)) (by simp [grown]; omega)); (obtain ⟨ha1, ha2, ha3⟩ := app_of hrun); clear hrun; (have Pa := Pz.out.below ((Below.refl _ wz).alloc (Nat.le_refl _) (.cells #[.string (str (zeros 32))] 9))); have ca := Pa.cells.1; (have hf2 : w2.frozen? ⟨w.heap.size, 0, none⟩ = false := by rw [hgrow.frozen_far _ Pa.row.lt (Ne.symm HNE.out)]; exact Pa.row.frozen 0); (have hc3 : w2.cell? ⟨w.heap.size, 0, none⟩ = some v := by rw [hgrow.cell_far _ Pa.row.lt (Ne.symm HNE.out)]; exact ca); (have hr3 := Lib.hid (Pa.row.of_block (hgrow.block w.heap.size Pa.row.lt (fun e => HNE.out e.symm)))); have HO := Lib.hid hown2; have HW := Lib.hid hgrow; have HT := Lib.hid hat; clear kz Pa hown2 hgrow hat)
        all_goals
          go_wp2
          go_roundw
          case rel =>
            refine ⟨j + 1, .slice (some ⟨g, 0, none⟩) ((grown j).is.length + 1) cap, by omega, by go_num, ?_, ?_, ?_⟩
            · exact RBv.setIs (s := grown j) (is := List.replicate (j + 1) (zeros 32)) hr3.out (World.ownsRow_nil _ _ _ _) (by rw [scells_grown]; simpa [grown] using HO.out)
            · intro k hk
              simp only [Value.ownBlock, Option.some.injEq] at hk
              subst hk
              rcases HT.out with h | h
              · exact V1.out _ h
              · have := Bz.out.size; omega
            · exact ((Bz.out.alloc Bz.out.size _).grown HW.out (by have := Bz.out.size; simp; omega) (fun k hk => V1.out k hk)).setCell (p := ⟨w.heap.size, 0, none⟩) (Nat.le_refl _) _
          case measure => simp [intOf]; omega
      · have hlI : (j : Int) < n := by omega
        clear hmm
        go_wp2
        all_goals go_region_with (go_at_call 38; refine (HZ.out _).mono ?_; rintro e wz ⟨rfl, kz⟩; have Pz := Lib.hid (Pd.out.below kz); have cz := (Pd.out.below kz).cells.1; have Bz := Lib.hid (Bd.out.trans (kz.mono Bd.out.size)); (obtain ⟨g, cap, w2, hrun, hown2, hgrow, hat⟩ := append_str wz v (grown j).is.length (scells (grown j).is) Pz.out.is (str (zeros 32)) (by simp [grown]; omega)); (obtain ⟨ha1, ha2, ha3⟩ := app_of hrun); clear hrun; (have Pa := Pz.out.below ((Below.refl _ wz).alloc (Nat.le_refl _) (.cells #[.string (str (zeros 32))] 9))); have ca := Pa.cells.1; (have hf2 : w2.frozen? ⟨w.heap.size, 0, none⟩ = false := by rw [hgrow.frozen_far _ Pa.row.lt (Ne.symm HNE.out)]; exact Pa.row.frozen 0); (have hc3 : w2.cell? ⟨w.heap.size, 0, none⟩ = some v := by rw [hgrow.cell_far _ Pa.row.lt (Ne.symm HNE.out)]; exact ca); (have hr3 := Lib.hid (Pa.row.of_block (hgrow.block w.heap.size Pa.row.lt (fun e => HNE.out e.symm)))); have HO := Lib.hid hown2; have HW := Lib.hid hgrow; have HT := Lib.hid hat; clear kz Pa hown2 hgrow hat)
        all_goals
          go_wp2
          go_roundw
          case rel =>
            refine ⟨j + 1, .slice (some ⟨g, 0, none⟩) ((grown j).is.length + 1) cap, by omega, by go_num, ?_, ?_, ?_⟩
            · exact RBv.setIs (s := grown j) (is := List.replicate (j + 1) (zeros 32)) hr3.out (World.ownsRow_nil _ _ _ _) (by rw [scells_grown]; simpa [grown] using HO.out)
            · intro k hk
              simp only [Value.ownBlock, Option.some.injEq] at hk
              subst hk
              rcases HT.out with h | h
              · exact V1.out _ h
              · have := Bz.out.size; omega
            · exact ((Bz.out.alloc Bz.out.size _).grown HW.out (by have := Bz.out.size; simp; omega) (fun k hk => V1.out k hk)).setCell (p := ⟨w.heap.size, 0, none⟩) (Nat.le_refl _) _
          case measure => simp [intOf]; omega
    · obtain rfl : j = m := by omega
      rcases HCS.out with ⟨hc1, hmm⟩ | ⟨hc1, hmm⟩ | ⟨hc1, hc2, hmm⟩
      · have hlI : ¬ ((j : Int) < 4) := by omega
        clear hmm hj hlt
        go_wp2
        all_goals go_ret
        all_goals exact ⟨rfl, _, P1.out.rb, fun k hk => .inr (by rcases hk with rfl | hk | hk; (exact Nat.le_refl _); (exact V1.out k hk); (simp [Value.ownBlock] at hk)), Keeps.of_below K1.out⟩
      · have hlI : ¬ ((j : Int) < 128) := by omega
        clear hmm hj hlt
        go_wp2
        all_goals go_ret
        all_goals exact ⟨rfl, _, P1.out.rb, fun k hk => .inr (by rcases hk with rfl | hk | hk; (exact Nat.le_refl _); (exact V1.out k hk); (simp [Value.ownBlock] at hk)), Keeps.of_below K1.out⟩
      · have hlI : ¬ ((j : Int) < n) := by omega
        clear hmm hj hlt
        go_wp2
        all_goals go_ret
        all_goals exact ⟨rfl, _, P1.out.rb, fun k hk => .inr (by rcases hk with rfl | hk | hk; (exact Nat.le_refl _); (exact V1.out k hk); (simp [Value.ownBlock] at hk)), Keeps.of_below K1.out⟩

theorem rnew_any (n : Int) (w : World) :
    Calls Tryz.prog 10 #[.int .i64 n] w fun e w' => e = .returned (.pointer (some ⟨w.heap.size, 0, none⟩)) ∧ Goes (fun _ => False) w w' (RB w' w.heap.size (fresh n)) := by
  refine rnew_m n (size0 n) w (size0_in n).2 ?_
  unfold size0
  by_cases h1 : n < 4
  · exact .inl ⟨h1, if_pos h1⟩
  · rw [if_neg h1]
    by_cases h2 : 128 < n
    · exact .inr (.inl ⟨h2, if_pos h2⟩)
    · rw [if_neg h2]; exact .inr (.inr ⟨by omega, by omega, by omega⟩)
end Go.Proofs.YtacdbfaoeioflaaGreatDoor
