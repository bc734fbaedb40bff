/-
  The document's own New (weirkeepref07), by a contract.

  The document's own counted, Sync and Read (weirkeepref07), by contracts.

  The document's own Read and Write (weirkeepref07), by contracts.
-/
import Derived.Test.YtmmpknfkncgjpaaGreatDoorM05
namespace Go.Proofs.YtmmpknfkncgjpaaGreatDoor
open Go.RowKit

theorem info_str : (Tryz.prog.info? 9).map (fun i => (i.zero, i.size, i.bytes)) = some (some (.string ⟨#[]⟩), 1, 16) := by kernel_rfl

/-- A plate of j sectors so far. -/
def grown (j : Nat) : St := ⟨List.replicate j (zeros 32), [], false, 0, 0, 0⟩
theorem fresh_grown (n : Int) : fresh n = grown (size0 n) := rfl
theorem scells_grown (j : Nat) : scells (List.replicate (j + 1) (zeros 32)) = scells (List.replicate j (zeros 32)) ++ [.string (str (zeros 32))] := by
  unfold scells
  rw [List.replicate_succ', List.flatMap_append]
  rfl

/-- What lasts is another row. -/
theorem RBv.setIs {w : World} {b : Nat} {s : St} {vi vw u : Value} {is : List (List UInt8)} (hr : w.rowIs b 46 6 (rf s vi vw)) (hw : w.ownsRow 0 137 2 vw s.wait.length (s.wait.flatMap rcells)) (ho : w.ownsRow 0 9 1 u is.length (scells is)) : RBv (w.setCell ⟨b, 0, none⟩ u) b { s with is := is } u vw :=
  ⟨(hr.set 0 u).congr fun o _ => by unfold rf; by_cases e : o = 0 <;> simp [e], owns_kept ho fun g hg => Below.heap_setCell _ _ _ _ (fun e => owns_ne ho hr (by decide) (by rw [hg]; exact congrArg some e)), owns_kept hw fun g hg => Below.heap_setCell _ _ _ _ (fun e => owns_ne hw hr (by decide) (by rw [hg]; exact congrArg some e))⟩
/-- A text is appended to texts in a row of their own. -/
theorem append_str (w : World) (v : Value) (n : Nat) (xs : List Value) (hown : w.ownsRow 0 9 1 v n xs) (x : ByteArray) (hn : n ≤ 1000) :
    ∃ g cap w2, (Builtin.append_ #[43, 43] 43 #[v, .slice (some ⟨w.heap.size, 0, none⟩) 1 1]).run Tryz.prog (w.alloc (.cells #[.string x] 9)) = .ok (.slice (some ⟨g, 0, none⟩) (n + 1) cap) w2 ∧
      w2.ownsRow 0 9 1 (.slice (some ⟨g, 0, none⟩) (n + 1) cap) (n + 1) (xs ++ [.string x]) ∧ (w.alloc (.cells #[.string x] 9)).grownBy w2 v.ownBlock ∧ (v.ownBlock = some g ∨ g = w.heap.size + 1) := by
  obtain ⟨i0, hi0, hz0, hz1, hz2⟩ := info_parts info_str
  obtain ⟨g, cap, w2, h1, h2, h3, h4, -⟩ := run_append_lies (P := Tryz.prog) (w.alloc (.cells #[.string x] 9)) 43 43 0 9 i0 _ 1 16 Tryz.underlying43 hi0 hz0 hz1 hz2 rfl (by omega) v n xs (owns_below hown ((Below.refl _ w).alloc (Nat.le_refl _) _))
    ⟨w.heap.size, 0, none⟩ 1 1 [.string x] rfl (fun q u hu => World.news_of_block (cs := #[.string x]) (t := 9) (fr := (0, 0)) (heap_alloc_new w _) q u hu) (fun u hu => by simp at hu; subst hu; rfl) (by omega) (by unfold maxLen; omega) (by omega) (by simp) (w.heap.size + 1) (by simp)
  exact ⟨g, cap, w2, h1, h2, h3, h4⟩

attribute [local go_sem ↓] Go.wp_at_zero Go.wp_at_succ wp_appL

set_option maxRecDepth 100000 in
set_option maxHeartbeats 4000000 in
theorem rnew_m (n : Int) (m : Nat) (w : World) (hm : m ≤ 128) (hcase : (n < 4 ∧ m = 4) ∨ (128 < n ∧ m = 128) ∨ (4 ≤ n ∧ n ≤ 128 ∧ n = (m : Int))) :
    Calls Tryz.prog 30 #[.int .i64 n] w fun e w' => e = .returned (.pointer (some ⟨w.heap.size, 0, none⟩)) ∧ Goes (fun _ => False) w w' (RB w' w.heap.size (grown m)) := by
  obtain ⟨i0, hi0, hz0, hz1, hz2⟩ := info_parts info_str
  have HI := Lib.hid (And.intro hi0 (And.intro hz0 (And.intro hz1 hz2)))
  have hr0 : (w.alloc (.cells #[.slice none 0 0, .slice none 0 0, .bool false, .int .i64 0, .int .u64 0, .int .i64 0] 46)).rowIs w.heap.size 46 6 (rf (grown 0) (.slice none 0 0) (.slice none 0 0)) :=
    World.rowIs_alloc w _ _ _ (fun q hq => by match q, hq with | 0, _ | 1, _ | 2, _ | 3, _ | 4, _ | 5, _ => rfl)
  have H0 := Lib.hid (show RBv (w.alloc (.cells #[.slice none 0 0, .slice none 0 0, .bool false, .int .i64 0, .int .u64 0, .int .i64 0] 46)) w.heap.size (grown 0) (.slice none 0 0) (.slice none 0 0) from ⟨hr0, World.ownsRow_nil _ _ _ _, World.ownsRow_nil _ _ _ _⟩)
  have K0 := Lib.hid (show Below w.heap.size w (w.alloc (.cells #[.slice none 0 0, .slice none 0 0, .bool false, .int .i64 0, .int .u64 0, .int .i64 0] 46)) from (Below.refl _ _).alloc (Nat.le_refl _) _)
  have HZ := Lib.hid (fun w => rzeros_any 32 (by omega) w)
  have e32 : ((32 : Nat) : Int) = 32 := rfl
  rw [e32] at HZ
  have HCS := Lib.hid hcase
  have hzl : w.heap.size < (w.alloc (.cells #[.slice none 0 0, .slice none 0 0, .bool false, .int .i64 0, .int .u64 0, .int .i64 0] 46)).heap.size := by simp
  clear hr0 hi0 hz0 hz1 hz2 e32 hcase
  go_enter Tryz.func30, Tryz.ntmps30
  go_wp2
  go_loopw [4] (fun jv wr => ∃ (j : Nat) (v : Value), j ≤ m ∧ jv = .int .i64 j ∧ RBv wr w.heap.size (grown j) v (.slice none 0 0) ∧ (∀ k, v.ownBlock = some k → w.heap.size ≤ k) ∧ Below w.heap.size w wr) (fun jv _ => m - (intOf jv).toNat)
  case atStart => exact ⟨0, _, Nat.zero_le _, rfl, H0.out, fun k hk => by simp [Value.ownBlock] at hk, K0.out⟩
  case round =>
    obtain ⟨j, v, hj, rfl, hP, hv, hK⟩ := hrel
    have P1 := Lib.hid hP
    have V1 := Lib.hid hv
    have K1 := Lib.hid hK
    have hbl := hP.row.lt
    clear hP hv hK H0 K0 hzl
    by_cases hlt : j < m
    · have hbd : Below wr.heap.size wr wr.drew := (Below.refl _ _).drew
      have Pd := Lib.hid (P1.out.below hbd)
      have Bd := Lib.hid K1.out.drew
      have cd := P1.out.cells.1
      have HNE := Lib.hid P1.out.neI
      clear hbd
      have hj1 : j ≤ 127 := by omega
      rcases HCS.out with ⟨hc1, hmm⟩ | ⟨hc1, hmm⟩ | ⟨hc1, hc2, hmm⟩
      · have hlI : (j : Int) < 4 := by omega
        clear hmm
        go_wp2
        all_goals go_region_with (go_at_call 66; refine (HZ.out _).mono ?_; rintro e wz ⟨rfl, kz⟩; have Pz := Lib.hid (Pd.out.below kz); have cz := (Pd.out.below kz).cells.1; have Bz := Lib.hid (Bd.out.trans (kz.mono Bd.out.size)); (obtain ⟨g, cap, w2, hrun, hown2, hgrow, hat⟩ := append_str wz v (grown j).is.length (scells (grown j).is) Pz.out.is (str (zeros 32)) (by simp [grown]; omega)); (obtain ⟨ha1, ha2, ha3⟩ := app_of hrun); clear hrun; (have Pa := Pz.out.below ((Below.refl _ wz).alloc (Nat.le_refl _) (.cells #[.string (str (zeros 32))] 9))); have ca := Pa.cells.1; (have hf2 : w2.frozen? ⟨w.heap.size, 0, none⟩ = false := by rw [hgrow.frozen_far _ Pa.row.lt (Ne.symm HNE.out)]; exact Pa.row.frozen 0); (have hc3 : w2.cell? ⟨w.heap.size, 0, none⟩ = some v := by rw [hgrow.cell_far _ Pa.row.lt (Ne.symm HNE.out)]; exact ca); (have hr3 := Lib.hid (Pa.row.of_block (hgrow.block w.heap.size Pa.row.lt (fun e => HNE.out e.symm)))); have HO := Lib.hid hown2; have HW := Lib.hid hgrow; have HT := Lib.hid hat; clear kz Pa hown2 hgrow hat)
        all_goals
          go_wp2
          go_roundw
          case rel =>
            refine ⟨j + 1, .slice (some ⟨g, 0, none⟩) ((grown j).is.length + 1) cap, by omega, by go_num, ?_, ?_, ?_⟩
            · exact RBv.setIs (s := grown j) (is := List.replicate (j + 1) (zeros 32)) hr3.out (World.ownsRow_nil _ _ _ _) (by rw [scells_grown]; simpa [grown] using HO.out)
            · intro k hk
              simp only [Value.ownBlock, Option.some.injEq] at hk
              subst hk
              rcases HT.out with h | h
              · exact V1.out _ h
              · have := Bz.out.size; omega
            · exact ((Bz.out.alloc Bz.out.size _).grown HW.out (by have := Bz.out.size; simp; omega) (fun k hk => V1.out k hk)).setCell (p := ⟨w.heap.size, 0, none⟩) (Nat.le_refl _) _
          case measure => simp [intOf]; omega
      · have hlI : (j : Int) < 128 := by omega
        clear hmm
        go_wp2
        all_goals go_region_with (go_at_call 66; refine (HZ.out _).mono ?_; rintro e wz ⟨rfl, kz⟩; have Pz := Lib.hid (Pd.out.below kz); have cz := (Pd.out.below kz).cells.1; have Bz := Lib.hid (Bd.out.trans (kz.mono Bd.out.size)); (obtain ⟨g, cap, w2, hrun, hown2, hgrow, hat⟩ := append_str wz v (grown j).is.length (scells (grown j).is) Pz.out.is (str (zeros 32)) (by simp [grown]; omega)); (obtain ⟨ha1, ha2, ha3⟩ := app_of hrun); clear hrun; (have Pa := Pz.out.below ((Below.refl _ wz).alloc (Nat.le_refl _) (.cells #[.string (str (zeros 32))] 9))); have ca := Pa.cells.1; (have hf2 : w2.frozen? ⟨w.heap.size, 0, none⟩ = false := by rw [hgrow.frozen_far _ Pa.row.lt (Ne.symm HNE.out)]; exact Pa.row.frozen 0); (have hc3 : w2.cell? ⟨w.heap.size, 0, none⟩ = some v := by rw [hgrow.cell_far _ Pa.row.lt (Ne.symm HNE.out)]; exact ca); (have hr3 := Lib.hid (Pa.row.of_block (hgrow.block w.heap.size Pa.row.lt (fun e => HNE.out e.symm)))); have HO := Lib.hid hown2; have HW := Lib.hid hgrow; have HT := Lib.hid hat; clear kz Pa hown2 hgrow hat)
        all_goals
          go_wp2
          go_roundw
          case rel =>
            refine ⟨j + 1, .slice (some ⟨g, 0, none⟩) ((grown j).is.length + 1) cap, by omega, by go_num, ?_, ?_, ?_⟩
            · exact RBv.setIs (s := grown j) (is := List.replicate (j + 1) (zeros 32)) hr3.out (World.ownsRow_nil _ _ _ _) (by rw [scells_grown]; simpa [grown] using HO.out)
            · intro k hk
              simp only [Value.ownBlock, Option.some.injEq] at hk
              subst hk
              rcases HT.out with h | h
              · exact V1.out _ h
              · have := Bz.out.size; omega
            · exact ((Bz.out.alloc Bz.out.size _).grown HW.out (by have := Bz.out.size; simp; omega) (fun k hk => V1.out k hk)).setCell (p := ⟨w.heap.size, 0, none⟩) (Nat.le_refl _) _
          case measure => simp [intOf]; omega
      · have hlI : (j : Int) < n := by omega
        clear hmm
        go_wp2
        all_goals go_region_with (go_at_call 66; refine (HZ.out _).mono ?_; rintro e wz ⟨rfl, kz⟩; have Pz := Lib.hid (Pd.out.below kz); have cz := (Pd.out.below kz).cells.1; have Bz := Lib.hid (Bd.out.trans (kz.mono Bd.out.size)); (obtain ⟨g, cap, w2, hrun, hown2, hgrow, hat⟩ := append_str wz v (grown j).is.length (scells (grown j).is) Pz.out.is (str (zeros 32)) (by simp [grown]; omega)); (obtain ⟨ha1, ha2, ha3⟩ := app_of hrun); clear hrun; (have Pa := Pz.out.below ((Below.refl _ wz).alloc (Nat.le_refl _) (.cells #[.string (str (zeros 32))] 9))); have ca := Pa.cells.1; (have hf2 : w2.frozen? ⟨w.heap.size, 0, none⟩ = false := by rw [hgrow.frozen_far _ Pa.row.lt (Ne.symm HNE.out)]; exact Pa.row.frozen 0); (have hc3 : w2.cell? ⟨w.heap.size, 0, none⟩ = some v := by rw [hgrow.cell_far _ Pa.row.lt (Ne.symm HNE.out)]; exact ca); (have hr3 := Lib.hid (Pa.row.of_block (hgrow.block w.heap.size Pa.row.lt (fun e => HNE.out e.symm)))); have HO := Lib.hid hown2; have HW := Lib.hid hgrow; have HT := Lib.hid hat; clear kz Pa hown2 hgrow hat)
        all_goals
          go_wp2
          go_roundw
          case rel =>
            refine ⟨j + 1, .slice (some ⟨g, 0, none⟩) ((grown j).is.length + 1) cap, by omega, by go_num, ?_, ?_, ?_⟩
            · exact RBv.setIs (s := grown j) (is := List.replicate (j + 1) (zeros 32)) hr3.out (World.ownsRow_nil _ _ _ _) (by rw [scells_grown]; simpa [grown] using HO.out)
            · intro k hk
              simp only [Value.ownBlock, Option.some.injEq] at hk
              subst hk
              rcases HT.out with h | h
              · exact V1.out _ h
              · have := Bz.out.size; omega
            · exact ((Bz.out.alloc Bz.out.size _).grown HW.out (by have := Bz.out.size; simp; omega) (fun k hk => V1.out k hk)).setCell (p := ⟨w.heap.size, 0, none⟩) (Nat.le_refl _) _
          case measure => simp [intOf]; omega
    · obtain rfl : j = m := by omega
      rcases HCS.out with ⟨hc1, hmm⟩ | ⟨hc1, hmm⟩ | ⟨hc1, hc2, hmm⟩
      · have hlI : ¬ ((j : Int) < 4) := by omega
        clear hmm hj hlt
        go_wp2
        all_goals go_ret
        all_goals exact ⟨rfl, _, P1.out.rb, fun k hk => .inr (by rcases hk with rfl | hk | hk; (exact Nat.le_refl _); (exact V1.out k hk); (simp [Value.ownBlock] at hk)), Keeps.of_below K1.out⟩
      · have hlI : ¬ ((j : Int) < 128) := by omega
        clear hmm hj hlt
        go_wp2
        all_goals go_ret
        all_goals exact ⟨rfl, _, P1.out.rb, fun k hk => .inr (by rcases hk with rfl | hk | hk; (exact Nat.le_refl _); (exact V1.out k hk); (simp [Value.ownBlock] at hk)), Keeps.of_below K1.out⟩
      · have hlI : ¬ ((j : Int) < n) := by omega
        clear hmm hj hlt
        go_wp2
        all_goals go_ret
        all_goals exact ⟨rfl, _, P1.out.rb, fun k hk => .inr (by rcases hk with rfl | hk | hk; (exact Nat.le_refl _); (exact V1.out k hk); (simp [Value.ownBlock] at hk)), Keeps.of_below K1.out⟩

theorem rnew_any (n : Int) (w : World) :
    Calls Tryz.prog 30 #[.int .i64 n] w fun e w' => e = .returned (.pointer (some ⟨w.heap.size, 0, none⟩)) ∧ Goes (fun _ => False) w w' (RB w' w.heap.size (fresh n)) := by
  refine rnew_m n (size0 n) w (size0_in n).2 ?_
  unfold size0
  by_cases h1 : n < 4
  · exact .inl ⟨h1, if_pos h1⟩
  · rw [if_neg h1]
    by_cases h2 : 128 < n
    · exact .inr (.inl ⟨h2, if_pos h2⟩)
    · rw [if_neg h2]; exact .inr (.inr ⟨by omega, by omega, by omega⟩)
end Go.Proofs.YtmmpknfkncgjpaaGreatDoor

namespace Go.Proofs.YtmmpknfkncgjpaaGreatDoor
open Go.RowKit

set_option maxRecDepth 100000 in
set_option maxHeartbeats 2000000 in
theorem rcounted_any (b : Nat) (s : St) (F : Nat → Prop) (w : World) (h : RB w b s F) (hg : Good s) (hc : s.n ≤ 1000000) :
    Calls Tryz.prog 138 #[.pointer (some ⟨b, 0, none⟩)] w fun e w' => e = .returned (.bool (lastC s)) ∧ Goes F w w' (RB w' b (count s)) := by
  have hbF := h.mem
  obtain ⟨vi, vw, h, hF⟩ := h.v
  obtain ⟨-, -, -, c3, c4, c5⟩ := h.cells
  have f3 := h.row.frozen 3
  have f5 := h.row.frozen 5
  have hlt := hg.lf
  have P1 := Lib.hid (h.setN (s.n + 1))
  have K1 := Lib.hid ((Keeps.refl F w).set (b := b) (o := 5) (.inl hbF) (.int .i64 ((s.n + 1 : Nat) : Int)))
  have hcast : ((s.n + 1 : Nat) : Int) = (s.n : Int) + 1 := by push_cast; rfl
  rw [hcast] at P1 K1
  have HF := Lib.hid hF
  clear hcast hF
  by_cases h0 : s.left = 0
  · have e1 : count s = { s with n := s.n + 1 } := by unfold count; rw [if_pos h0]
    have e2 : lastC s = false := by unfold lastC; rw [h0]; rfl
    rw [e1, e2]
    rw [h0] at c3
    clear h e1 e2 hg h0
    go_enter Tryz.func138, Tryz.ntmps138
    go_wp2
    go_ret
    exact ⟨rfl, Goes.ref P1.out hbF (fun k hk => .inl (HF.out k (.inr (.inl hk)))) (fun k hk => .inl (HF.out k (.inr (.inr hk)))) K1.out⟩
  · by_cases h1 : s.left = 1
    · have e1 : count s = crash { { s with n := s.n + 1 } with left := 0 } s.keep := by unfold count; rw [if_neg h0, if_pos h1]
      have e2 : lastC s = true := by unfold lastC; rw [h1]; rfl
      rw [e1, e2]
      have P2 := Lib.hid (P1.out.setLeft 0)
      have K2 := Lib.hid (K1.out.set (b := b) (o := 3) (.inl hbF) (.int .i64 ((0 : Nat) : Int)))
      have HC := Lib.hid (rcrash_any b { { s with n := s.n + 1 } with left := 0 } _ s.keep _ P2.out.rb ⟨hg.sec, hg.wt, hg.lo, hg.hi, by show 0 < _; omega, hg.kp⟩)
      have hc0 : ((0 : Nat) : Int) = 0 := rfl
      rw [hc0] at HC K2
      rw [h1] at c3
      clear h e1 e2 hg hc0 P1 K1 P2 h0 h1
      go_enter Tryz.func138, Tryz.ntmps138
      go_wp2_with (go_at_call 33; refine HC.out.mono ?_; rintro e w1 ⟨rfl, k1⟩; have K3 := Lib.hid k1; clear k1)
      go_ret
      exact ⟨rfl, Goes.trans (fun k hk => .inl (HF.out k hk)) K2.out K3.out⟩
    · have e1 : count s = { { s with n := s.n + 1 } with left := s.left - 1 } := by unfold count; rw [if_neg h0, if_neg h1]
      have e2 : lastC s = false := by unfold lastC; simp [h1]
      rw [e1, e2]
      have P2 := Lib.hid (P1.out.setLeft (s.left - 1))
      have K2 := Lib.hid (K1.out.set (b := b) (o := 3) (.inl hbF) (.int .i64 ((s.left - 1 : Nat) : Int)))
      have hcast : ((s.left - 1 : Nat) : Int) = (s.left : Int) - 1 := by omega
      rw [hcast] at P2 K2
      have h1I : (1 : Int) < (s.left : Int) := by omega
      clear h e1 e2 hg hcast P1 K1 h0 h1
      go_enter Tryz.func138, Tryz.ntmps138
      go_wp2
      go_ret
      exact ⟨rfl, Goes.ref P2.out hbF (fun k hk => .inl (HF.out k (.inr (.inl hk)))) (fun k hk => .inl (HF.out k (.inr (.inr hk)))) K2.out⟩

theorem lastC_true {s : St} (h : s.left = 1) : lastC s = true := by unfold lastC; rw [h]; rfl
theorem lastC_false {s : St} (h : ¬ s.left = 1) : lastC s = false := by unfold lastC; simp [h]

/-- The writes take place, in the document's own. -/
theorem whole_eq (s : St) : whole s = { (at' s (fun _ => 32) s.wait.length) with wait := [] } := rfl

set_option maxRecDepth 100000 in
set_option maxHeartbeats 4000000 in
theorem rsync_any (b : Nat) (s : St) (F : Nat → Prop) (w : World) (h : RB w b s F) (hg : Good s) (hc : s.n ≤ 1000000) :
    Calls Tryz.prog 112 #[.pointer (some ⟨b, 0, none⟩)] w fun e w' => e = .returned (.int .i64 (syncE s)) ∧ Goes F w w' (RB w' b (syncS s)) := by
  have HP0 := Lib.hid h
  obtain ⟨vi, vw, h, hF⟩ := h.v
  obtain ⟨-, -, c2, -⟩ := h.cells
  clear h hF
  cases hgo : s.gone
  · rw [hgo] at c2
    have hgt : ¬ (s.gone = true) := by simp [hgo]
    have HC := Lib.hid (rcounted_any b s F w HP0.out hg hc)
    have HG := Lib.hid hg.count
    by_cases h1 : s.left = 1
    · have e1 : syncE s = 70 := by unfold syncE; rw [if_pos (.inr h1)]
      have e2 : syncS s = count s := by unfold syncS; rw [if_neg hgt, if_pos h1]
      rw [e1, e2]
      rw [lastC_true h1] at HC
      clear h1 e1 e2 hgt hgo hg
      generalize count s = s2 at HC HG ⊢
      have hd : decide (false = true) = false := rfl
      go_enter Tryz.func112, Tryz.ntmps112
      go_wp2_with (go_at_call 138; refine HC.out.mono ?_; rintro e w1 ⟨rfl, k1⟩; have K1 := Lib.hid k1; clear k1)
      go_ret
      exact ⟨rfl, K1.out⟩
    · have e1 : syncE s = 0 := by unfold syncE; rw [if_neg (fun e => by rcases e with e | e; (exact hgt e); (exact h1 e))]
      have e2 : syncS s = whole (count s) := by unfold syncS; rw [if_neg hgt, if_neg h1]
      rw [e1, e2]
      rw [lastC_false h1] at HC
      clear h1 e1 e2 hgt hgo hg
      generalize count s = s2 at HC HG ⊢
      go_enter Tryz.func112, Tryz.ntmps112
      go_wp2_with (go_at_call 138; refine HC.out.mono ?_; rintro e w1 ⟨rfl, k1⟩; obtain ⟨F1, k1, k2, k3⟩ := k1; obtain ⟨vi1, vw1, k1, k4⟩ := k1.v; have P1 := Lib.hid k1; have E1 := Lib.hid (And.intro k2 (And.intro k3 k4)); (obtain ⟨⟨A, c, k5, k6, k7, -⟩, ⟨B, d, k8, k9, k10, -⟩⟩ := k1.shapes); subst k5 k8; clear k1 k2 k3 k4)
      unfold maxLen at k7 k10
      go_loopw [3] (fun jv wr => ∃ j : Nat, j ≤ s2.wait.length ∧ jv = .int .i64 j ∧ RBv wr b (at' s2 (fun _ => 32) j) (.slice A s2.is.length c) (.slice B s2.wait.length d) ∧ Keeps F1 w1 wr) (fun jv _ => s2.wait.length - (intOf jv).toNat)
      case atStart => exact ⟨0, Nat.zero_le _, rfl, P1.out, Keeps.refl _ _⟩
      case round =>
        obtain ⟨j, hj, rfl, hP, hK⟩ := hrel
        have P3 := Lib.hid hP
        have K3 := Lib.hid hK
        have d1 := hP.cells.2.1
        clear hP hK P1
        by_cases hlt : j < s2.wait.length
        · have hlI : (j : Int) < (s2.wait.length : Int) := by omega
          obtain ⟨x, hx⟩ : ∃ x, s2.wait[j]? = some x := ⟨_, List.getElem?_eq_getElem hlt⟩
          obtain ⟨hxi, hx32⟩ := HG.out.wt x (List.mem_of_getElem? hx)
          obtain ⟨⟨A1, c1, he1, -, -, hcI⟩, ⟨B1, c2', he2, -, -, hcW⟩⟩ := P3.out.shapes
          injection he1 with he1
          injection he2 with he2
          subst he1 he2
          obtain ⟨gw, rfl, hgw, w0, w1'⟩ := hcW j x hx
          have hdl : (done (fun _ => 32) s2.wait s2.is j).length = s2.is.length := done_length _ _ _ _
          have hxd : x.i < (done (fun _ => 32) s2.wait s2.is j).length := by rw [hdl]; exact hxi
          have hsec := done_sec (f := fun _ => 32) HG.out.sec HG.out.wt j x.i hxi
          have hold : (done (fun _ => 32) s2.wait s2.is j)[x.i]? = some ((done (fun _ => 32) s2.wait s2.is j).getD x.i []) := by rw [List.getD_eq_getElem?_getD, List.getElem?_eq_getElem hxd]; rfl
          obtain ⟨gi, rfl, hgi, i0⟩ := hcI x.i _ hold
          have HDS := Lib.hid (show (at' s2 (fun _ => 32) (j + 1)) = { at' s2 (fun _ => 32) j with is := (done (fun _ => 32) s2.wait s2.is j).set x.i x.b } from by unfold at'; rw [done_succ hx, mix_all hx32 hsec])
          have HDL := Lib.hid hdl
          generalize hod : (done (fun _ => 32) s2.wait s2.is j).getD x.i [] = old at i0
          have hj0 : (0 : Int) ≤ (j : Int) := by omega
          have hx0 : (0 : Int) ≤ (x.i : Int) := by omega
          have hx1 : (x.i : Int) < (s2.is.length : Int) := by omega
          have f0 := P3.out.cells.1
          have fz : wr.frozen? ⟨gi, x.i, none⟩ = false := by
            obtain ⟨cur, hcur⟩ := owns_type P3.out.is rfl
            unfold World.frozen?; simp only [hcur]; simp
          have HGI := Lib.hid (E1.out.2.2 gi (.inr (.inl rfl)))
          have FIN := Lib.hid (show RBv (wr.setCell ⟨gi, x.i, none⟩ (.string (str x.b))) b (at' s2 (fun _ => 32) (j + 1)) (.slice (some ⟨gi, 0, none⟩) s2.is.length c) (.slice (some ⟨gw, 0, none⟩) s2.wait.length d) from by
            rw [HDS.out]
            exact P3.out.setSec HDL.out.symm x.i _)
          clear hx hx32 hcI hcW hdl hxd hold hod hsec
          go_wp2
          go_region
          go_wp2
          go_roundw
          case rel => exact ⟨j + 1, by omega, by go_num, FIN.out.below ((Below.refl _ _).drew), (K3.out.set (b := gi) (o := x.i) (.inl HGI.out) _).drew⟩
          case measure => simp [intOf]; omega
        · obtain rfl : j = s2.wait.length := by omega
          have hlI : ¬ ((s2.wait.length : Int) < (s2.wait.length : Int)) := by omega
          have z1 := P3.out.row.frozen 1
          have PF := Lib.hid (RBv.setWaits (ws := []) (u := .slice none 0 0) P3.out.row P3.out.is (World.ownsRow_nil _ _ _ _))
          have hbF := E1.out.2.2 b (.inl rfl)
          have KF := Lib.hid (K3.out.set (b := b) (o := 1) (.inl hbF) (.slice none 0 0))
          clear hj
          go_wp2
          go_ret
          exact ⟨rfl, Goes.trans E1.out.1 E1.out.2.1 (Goes.ref PF.out hbF (fun k hk => .inl (E1.out.2.2 k (.inr (.inl hk)))) (fun k hk => by simp [Value.ownBlock] at hk) KF.out)⟩
  · rw [hgo] at c2
    have e1 : syncE s = 70 := by unfold syncE; rw [if_pos (.inl hgo)]
    have e2 : syncS s = s := by unfold syncS; rw [if_pos hgo]
    rw [e1, e2]
    clear e1 e2 hgo
    go_enter Tryz.func112, Tryz.ntmps112
    go_wp2
    go_ret
    exact ⟨rfl, Goes.same HP0.out (Keeps.refl _ _)⟩
end Go.Proofs.YtmmpknfkncgjpaaGreatDoor

namespace Go.Proofs.YtmmpknfkncgjpaaGreatDoor
open Go.RowKit

set_option maxRecDepth 100000 in
set_option maxHeartbeats 2000000 in
theorem rread_any (b : Nat) (s : St) (F : Nat → Prop) (i : Int) (w : World) (h : RB w b s F) :
    Calls Tryz.prog 96 #[.pointer (some ⟨b, 0, none⟩), .int .i64 i] w fun e w' => e = .returned (.tuple #[.string (str (readV s i)), .int .i64 (wrong s i)]) ∧ w = w' := by
  have HR := Lib.hid (rwrong_any b s F i w h)
  obtain ⟨vi, vw, h, -⟩ := h.v
  obtain ⟨c0, c1, -⟩ := h.cells
  obtain ⟨⟨A, c, rfl, hc1, hc2, hcI⟩, ⟨B, d, rfl, hd1, hd2, hcW⟩⟩ := h.shapes
  clear h
  by_cases hi : wrong s i = 0
  · have e1 : readV s i = readB s i.toNat := by unfold readV; rw [if_neg (by omega)]
    rw [e1, hi]
    rw [hi] at HR
    obtain ⟨-, h0, h1⟩ := wrong_zero hi
    obtain ⟨k, rfl⟩ : ∃ k : Nat, i = (k : Int) := ⟨i.toNat, by omega⟩
    rw [Int.toNat_natCast]
    have hk : k < s.is.length := by omega
    have hold : s.is[k]? = some (s.is.getD k []) := by rw [List.getD_eq_getElem?_getD, List.getElem?_eq_getElem hk]; rfl
    obtain ⟨gi, rfl, hgi, i0⟩ := hcI k _ hold
    have HCW := Lib.hid hcW
    unfold maxLen at hc2 hd2
    clear hcI hcW hold hi e1
    unfold readB
    generalize s.is.getD k [] = old at i0 ⊢
    go_enter Tryz.func96, Tryz.ntmps96
    go_wp2_with (go_at_call 127; refine HR.out.mono ?_; rintro e w1 ⟨rfl, rfl⟩)
    go_loop [7, 8] (fun sv jv => ∃ j : Nat, j ≤ s.wait.length ∧ jv = .int .i64 j ∧ sv = .string (str (seen s.wait k old j))) (fun _ jv => s.wait.length - (intOf jv).toNat)
    case atStart => exact ⟨0, Nat.zero_le _, rfl, rfl⟩
    case round =>
      obtain ⟨j, hj, rfl, rfl⟩ := hrel
      by_cases hlt : j < s.wait.length
      · have hlI : (j : Int) < (s.wait.length : Int) := by omega
        have hj0 : (0 : Int) ≤ (j : Int) := by omega
        obtain ⟨x, hx⟩ : ∃ x, s.wait[j]? = some x := ⟨_, List.getElem?_eq_getElem hlt⟩
        obtain ⟨gw, rfl, hgw, w0, w1⟩ := HCW.out j x hx
        have HS := Lib.hid (show seen s.wait k old (j + 1) = if x.i = k then x.b else seen s.wait k old j from by
          show (match s.wait[j]? with | none => seen s.wait k old j | some w => if w.i = k then w.b else seen s.wait k old j) = _
          rw [hx])
        clear hx
        generalize seen s.wait k old j = cur at HS ⊢
        by_cases hxk : x.i = k
        · have hS : seen s.wait k old (j + 1) = x.b := by rw [HS.out, if_pos hxk]
          have HS2 := Lib.hid hS
          have ht : ((x.i : Int) == (k : Int)) = true := by simp [hxk]
          clear hS hxk
          go_wp2
          go_round
          case rel => exact ⟨j + 1, by omega, by go_num, by rw [HS2.out]⟩
          case measure => simp [intOf]; omega
        · have hS : seen s.wait k old (j + 1) = cur := by rw [HS.out, if_neg hxk]
          have HS2 := Lib.hid hS
          have ht : ((x.i : Int) == (k : Int)) = false := by simp; omega
          clear hS hxk
          go_wp2
          go_round
          case rel => exact ⟨j + 1, by omega, by go_num, by rw [HS2.out]⟩
          case measure => simp [intOf]; omega
      · obtain rfl : j = s.wait.length := by omega
        have hlI : ¬ ((s.wait.length : Int) < (s.wait.length : Int)) := by omega
        clear hj
        go_wp2
        go_ret2
        exact ⟨rfl, rfl⟩
  · have e1 : readV s i = [] := by unfold readV; rw [if_pos hi]
    rw [e1]
    generalize wrong s i = x at HR hi ⊢
    have hx : (x == 0) = false := by simpa using hi
    clear hcI hcW e1
    go_enter Tryz.func96, Tryz.ntmps96
    go_wp2_with (go_at_call 127; refine HR.out.mono ?_; rintro e w1 ⟨rfl, rfl⟩)
    go_ret2
    exact ⟨rfl, rfl⟩
end Go.Proofs.YtmmpknfkncgjpaaGreatDoor
