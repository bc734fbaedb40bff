/-
  sumsOf (package clock), by a contract: the ways of all clocks up to each row, in a row of memory of its own.
-/
import Derived.Test.YtdkkoeiceaolnaaBetween
import Derived.Deep.AppendLies
import Derived.Deep.RegionLaw
import Derived.OwnWalk
namespace Go.Proofs.Ytdkkoeiceaolnaa
open Go.RowKit

/-- The cells of one sum, and of the first m sums. -/
def sumC (T : Nat → Nat → Int) (r : Nat) : List Value := (ar fun c => sm T c r).toList
def flatS (T : Nat → Nat → Int) : Nat → List Value
  | 0 => []
  | m + 1 => flatS T m ++ sumC T m
theorem flatS_length (T : Nat → Nat → Int) (m : Nat) : (flatS T m).length = m * 8 := by
  induction m with
  | zero => rfl
  | succ m ih => simp only [flatS, List.length_append, ih, sumC]; simp; omega
theorem sumC_one (T : Nat → Nat → Int) (r : Nat) : ∀ u ∈ sumC T r, u.oneCell' = true := by
  intro u hu
  simp [sumC] at hu
  rcases hu with rfl | rfl | rfl | rfl | rfl | rfl | rfl | rfl <;> rfl
theorem flatS_get (T : Nat → Nat → Int) {m r c : Nat} (hr : r < m) (hc : c < 8) : (flatS T m)[r * 8 + c]? = some (.int .i64 (sm T c r)) := by
  induction m with
  | zero => omega
  | succ m ih =>
    have hl := flatS_length T m
    rcases Nat.lt_or_ge r m with h | h
    · rw [flatS, List.getElem?_append_left (by omega)]; exact ih h
    · obtain rfl : r = m := by omega
      rw [flatS, List.getElem?_append_right (by omega), hl, show r * 8 + c - r * 8 = c by omega]
      have := ar_get (fun c => sm T c r) c hc
      simpa [sumC, intF] using this

theorem infoWays : (Try.prog.info? 62).map (fun i => (i.zero, i.size, i.bytes)) = some (some (.agg (ar fun _ => 0)), 8, 64) := by kernel_rfl
theorem made_take (n : Nat) : (madeCells (Value.agg (ar fun _ => 0)).cells ((n + 1) * 8)).toList.take (1 * 8) = sumC (fun _ _ => 0) 0 := by
  apply List.ext_getElem?
  intro i
  rw [List.getElem?_take]
  by_cases h : i < 1 * 8
  · rw [if_pos h]
    match i, h with
    | 0, _ | 1, _ | 2, _ | 3, _ | 4, _ | 5, _ | 6, _ | 7, _ => simp [madeCells, sumC, sm, Value.cells, show 0 < (n + 1) * 8 by omega, show 1 < (n + 1) * 8 by omega, show 2 < (n + 1) * 8 by omega, show 3 < (n + 1) * 8 by omega, show 4 < (n + 1) * 8 by omega, show 5 < (n + 1) * 8 by omega, show 6 < (n + 1) * 8 by omega, show 7 < (n + 1) * 8 by omega]
  · rw [if_neg h]
    simp [sumC]; omega
theorem owns_made (w : World) (n : Nat) (hn : n ≤ 31) : (w.alloc (.cells (madeCells (Value.agg (ar fun _ => 0)).cells ((n + 1) * 8)) 62)).ownsRow w.heap.size 62 8 (.slice (some ⟨w.heap.size, 0, none⟩) 1 (n + 1)) 1 (flatS (fun _ _ => 0) 1) := by
  refine ⟨rfl, .inr ⟨w.heap.size, n + 1, _, rfl, Nat.le_refl _, heap_alloc_new w _, by omega, by unfold maxLen; omega, size_madeCells _ _, ?_⟩⟩
  rw [made_take]; rfl
theorem flatS_first (T : Nat → Nat → Int) : flatS T 1 = flatS (fun _ _ => 0) 1 := rfl

theorem owns_kept {w w' : World} {base e size g n cap : Nat} {xs : List Value} (h : w.ownsRow base e size (.slice (some ⟨g, 0, none⟩) n cap) n xs) (hb : w'.heap[g]? = w.heap[g]?) : w'.ownsRow base e size (.slice (some ⟨g, 0, none⟩) n cap) n xs := by
  refine ⟨h.1, ?_⟩
  rcases h.2 with ⟨hn, _⟩ | ⟨g', cap', cur, hv, h1, h2, h3⟩
  · cases hn
  · cases hv
    exact .inr ⟨g, cap, cur, rfl, h1, hb.trans h2, h3⟩
theorem owns_lt {w : World} {base e size g n cap : Nat} {xs : List Value} (h : w.ownsRow base e size (.slice (some ⟨g, 0, none⟩) n cap) n xs) : base ≤ g ∧ g < w.heap.size := World.ownsRow.lt h g rfl

/-- The sums of n rows, in block g. -/
def Sums (w : World) (g n : Nat) (T : Nat → Nat → Int) : Prop := ∀ r, r ≤ n → ∀ c, c < 8 → w.cell? ⟨g, r * 8 + c, none⟩ = some (.int .i64 (sm T c r))
/-- What sumsOf answers. -/
def SumsRet (n : Nat) (T : Nat → Nat → Int) (w : World) (e : Ending) (w' : World) : Prop := ∃ g cap, e = .returned (.slice (some ⟨g, 0, none⟩) (n + 1) cap) ∧ Sums w' g n T ∧ w.heap.size ≤ g ∧ Below w.heap.size w w'

set_option maxRecDepth 100000 in
set_option maxHeartbeats 4000000 in
theorem sumsOf_any (A : Option Addr) (n c : Nat) (T : Nat → Nat → Int) (w : World) (h : Hist w A n T) (hn : n ≤ 31) :
    Calls Try.prog 25 #[.slice A n c] w (SumsRet n T w) := by
  obtain ⟨i0, hi0, hz0, hz1, hz2⟩ := info_parts infoWays
  have HH := Lib.hid h
  have HO := Lib.hid h.ok
  have O1 := owns_made w n hn
  have hmk := run_make (P := Try.prog) w 54 62 i0 _ Try.underlying54 hi0 hz0 .i64 .i64 1 ((n : Int) + 1) (by omega) (by omega) (by rw [hz2]; omega) (by omega)
  rw [hz1, show ((n : Int) + 1).toNat = n + 1 by omega, show (1 : Int).toNat = 1 from rfl] at hmk
  have B1 : Below w.heap.size w (w.alloc (.cells (madeCells (Value.agg (ar fun _ => 0)).cells ((n + 1) * 8)) 62)) := (Below.refl _ _).alloc (Nat.le_refl _) _
  have z1 : (w.alloc (.cells (madeCells (Value.agg (ar fun _ => 0)).cells ((n + 1) * 8)) 62)).heap.size = w.heap.size + 1 := by simp
  generalize w.alloc (.cells (madeCells (Value.agg (ar fun _ => 0)).cells ((n + 1) * 8)) 62) = w1 at O1 hmk B1 z1
  have H1 := Lib.hid O1
  have HB1 := Lib.hid B1
  have HZ1 := Lib.hid z1
  clear h O1 B1 z1
  go_enter Try.func25, Try.ntmps25
  go_wp2
  have S2 : (w1.alloc (.cells #[.int .i64 0, .int .i64 0, .int .i64 0, .int .i64 0, .int .i64 0, .int .i64 0, .int .i64 0, .int .i64 0] 62)).rowIs w1.heap.size 62 8 (intF fun q => sm T q 0) := row_new w1 (fun _ => 0) 62
  have HS2 := Lib.hid S2
  have HO2 := Lib.hid (H1.out.alloc (.cells #[.int .i64 0, .int .i64 0, .int .i64 0, .int .i64 0, .int .i64 0, .int .i64 0, .int .i64 0, .int .i64 0] 62))
  have HB2 := Lib.hid (HB1.out.alloc HB1.out.size (.cells #[.int .i64 0, .int .i64 0, .int .i64 0, .int .i64 0, .int .i64 0, .int .i64 0, .int .i64 0, .int .i64 0] 62))
  have hwS : w.heap.size < w1.heap.size := by have := HZ1.out; omega
  clear S2 H1 HB1 HZ1 hmk
  generalize w1.alloc (.cells #[.int .i64 0, .int .i64 0, .int .i64 0, .int .i64 0, .int .i64 0, .int .i64 0, .int .i64 0, .int .i64 0] 62) = w2 at HS2 HO2 HB2 ⊢
  generalize w1.heap.size = S at HS2 hwS ⊢
  go_loopw [3, 14] (fun v3 v wr => ∃ j g cap : Nat, j ≤ n ∧ v = .int .i64 j ∧ v3 = .slice (some ⟨g, 0, none⟩) (j + 1) cap ∧ wr.ownsRow w.heap.size 62 8 (.slice (some ⟨g, 0, none⟩) (j + 1) cap) (j + 1) (flatS T (j + 1)) ∧ g ≠ S ∧ wr.rowIs S 62 8 (intF fun q => sm T q j) ∧ Below w.heap.size w wr) (fun _ v _ => n - (intOf v).toNat)
  case atStart => exact ⟨0, w.heap.size, n + 1, Nat.zero_le _, rfl, rfl, HO2.out, by omega, HS2.out, HB2.out⟩
  case round =>
    obtain ⟨j, g, cap, hj, rfl, rfl, k1, hgS, k2, k3⟩ := hrel
    have KO := Lib.hid k1
    have KS := Lib.hid k2
    have KB := Lib.hid k3
    clear k1 k2 k3 HS2 HO2 HB2
    by_cases hjn : j < n
    · obtain ⟨ab, ao, B, L, C, z, rfl, hx0, hl⟩ := HH.out j hjn
      have hx := (KB.out.cell (p := ⟨ab, ao + j, none⟩) (cell_lt5 hx0)).trans hx0
      have hjI : (j : Int) < (n : Int) := by omega
      have hlen := hl.len
      have HL := Lib.hid hl
      clear hl hx0
      rcases Nat.lt_or_ge 8 L with hL | hL
      · have hL8 : (8 : Int) < (L : Int) := by omega
        go_wp2
        go_loopw [21] (fun v wr => ∃ i : Nat, i ≤ 8 ∧ v = .int .i64 i ∧ wr.rowIs S 62 8 (intF fun q => if q < i then sm T q (j + 1) else sm T q j) ∧ wr.ownsRow w.heap.size 62 8 (.slice (some ⟨g, 0, none⟩) (j + 1) cap) (j + 1) (flatS T (j + 1)) ∧ Below w.heap.size w wr) (fun v _ => 8 - (intOf v).toNat)
        case atStart => exact ⟨0, Nat.zero_le _, rfl, by simpa using KS.out, KO.out, KB.out⟩
        case round =>
          obtain ⟨i, hi, rfl, k1, k2, k3⟩ := hrel
          have IS := Lib.hid k1
          have KO2 := Lib.hid k2
          have IB := Lib.hid k3
          clear k1 k2 k3
          by_cases hlt : i < 8
          · obtain ⟨bb, bo, rfl, hy⟩ := (HL.out.below IB.out (Nat.le_refl _)).at' i (by omega)
            have hv := HL.out.val i (by omega)
            have hiI : (i : Int) < 8 := by omega
            have hiL : (i : Int) < (L : Int) := by omega
            have hi8 : (i : Int) < 8 := by omega
            have s0 : wr.cell? ⟨S, i, none⟩ = some (.int .i64 (sm T i j)) := by rw [IS.out.cell (by omega)]; simp [intF]
            have s1 : wr.frozen? ⟨S, i, none⟩ = false := IS.out.frozen i
            obtain ⟨t0, t1⟩ := HL.out.bound i
            obtain ⟨m0, m1⟩ := sm_bound HO.out (c := i) (m := j) (by omega) hn
            have HW := Lib.hid (fun w => within_any (z i) 0 1048576 w)
            rw [← hv] at HW
            have HV := Lib.hid (show sm T i (j + 1) = sm T i j + T j i from rfl)
            clear hv
            generalize T j i = t at HW HV t0 t1
            generalize sm T i j = sj at s0 m0 m1 HV
            go_wp2_with fail
            go_region_with (go_at_call 32; refine (HW.out _).mono ?_; rintro e w' ⟨rfl, rfl⟩)
            all_goals
              go_wp2
              go_roundw
              case rel =>
                refine ⟨i + 1, by omega, by go_num, ?_, ?_, ?_⟩
                · refine ((IS.out.set i _).drew).congr fun q _ => ?_
                  unfold intF
                  by_cases hq : q = i
                  · subst hq; simp [HV.out]
                  · simp only [hq, if_false]
                    congr 1
                    by_cases h1 : q < i
                    · rw [if_pos h1, if_pos (by omega)]
                    · rw [if_neg h1, if_neg (by omega)]
                · exact owns_kept KO2.out (Deep.blk_setCell_other _ _ _ _ hgS)
                · exact (IB.out.setCell (p := ⟨S, i, none⟩) (by show w.heap.size ≤ S; omega) _).drew
              case measure => simp [intOf]; omega
          · have hiI : ¬ ((i : Int) < 8) := by omega
            have IR : wr.rowIs S 62 8 (intF fun q => sm T q (j + 1)) := IS.out.congr fun q hq => by
              unfold intF
              congr 1
              by_cases h1 : q < i
              · simp [h1]
              · have := HL.out.out q (by omega)
                simp only [h1, if_false, sm, this]
                omega
            obtain ⟨c0, c1, c2, c3, c4, c5, c6, c7⟩ := row_cells IR
            have HR := Lib.hid IR
            have hSl := IR.lt
            have HN := Lib.hid (show ∀ q u, (sumC T (j + 1))[q]? = some u → (wr.alloc (.cells (ar fun q => sm T q (j + 1)) 62)).cell? ((⟨wr.heap.size, 0, none⟩ : Addr).add q) = some u from fun q u hu => World.news_of_block (cs := ar fun q => sm T q (j + 1)) (t := 62) (fr := (0, 0)) (heap_alloc_new wr _) q u hu)
            have hzi := IB.out.size
            clear IR IS
            go_wp2_with (at_builtin; refine wpList_append_lies _ rfl (.tmp 35) (.tmp 37) 54 rfl w.heap.size 62 i0 _ 8 64 Try.underlying54 hi0 hz0 hz1 hz2 rfl (by decide) _ _ _ rfl (World.ownsRow.alloc KO2.out _) ⟨wr.heap.size, 0, none⟩ 1 1 (sumC T (j + 1)) rfl rfl HN.out (sumC_one T (j + 1)) (by omega) (by unfold maxLen; omega) (by omega) (by simp; omega) (wr.heap.size + 1) (by simp) ?_; intro g2 cap2 w2 hown2 hgrow hat hlt2)
            go_roundw
            case rel =>
              refine ⟨j + 1, g2, cap2, by omega, by go_num, rfl, ?_, ?_, ?_, ?_⟩
              · exact hown2
              · rcases hat with hat | hat
                · cases hat; exact hgS
                · omega
              · exact (HR.out.alloc _).of_block (hgrow.block S (by simp; omega) (fun e => hgS (by cases e; rfl)))
              · exact (IB.out.alloc hzi _).grown hgrow (by simp; omega) (fun k e => by cases e; exact (owns_lt KO2.out).1)
            case measure => simp [intOf]; omega
      · have hL8 : (L : Int) ≤ 8 := by omega
        go_wp2
        go_loopw [21] (fun v wr => ∃ i : Nat, i ≤ L ∧ v = .int .i64 i ∧ wr.rowIs S 62 8 (intF fun q => if q < i then sm T q (j + 1) else sm T q j) ∧ wr.ownsRow w.heap.size 62 8 (.slice (some ⟨g, 0, none⟩) (j + 1) cap) (j + 1) (flatS T (j + 1)) ∧ Below w.heap.size w wr) (fun v _ => L - (intOf v).toNat)
        case atStart => exact ⟨0, Nat.zero_le _, rfl, by simpa using KS.out, KO.out, KB.out⟩
        case round =>
          obtain ⟨i, hi, rfl, k1, k2, k3⟩ := hrel
          have IS := Lib.hid k1
          have KO2 := Lib.hid k2
          have IB := Lib.hid k3
          clear k1 k2 k3
          by_cases hlt : i < L
          · obtain ⟨bb, bo, rfl, hy⟩ := (HL.out.below IB.out (Nat.le_refl _)).at' i (by omega)
            have hv := HL.out.val i (by omega)
            have hiI : (i : Int) < (L : Int) := by omega
            have hiL : (i : Int) < (L : Int) := by omega
            have hi8 : (i : Int) < 8 := by omega
            have s0 : wr.cell? ⟨S, i, none⟩ = some (.int .i64 (sm T i j)) := by rw [IS.out.cell (by omega)]; simp [intF]
            have s1 : wr.frozen? ⟨S, i, none⟩ = false := IS.out.frozen i
            obtain ⟨t0, t1⟩ := HL.out.bound i
            obtain ⟨m0, m1⟩ := sm_bound HO.out (c := i) (m := j) (by omega) hn
            have HW := Lib.hid (fun w => within_any (z i) 0 1048576 w)
            rw [← hv] at HW
            have HV := Lib.hid (show sm T i (j + 1) = sm T i j + T j i from rfl)
            clear hv
            generalize T j i = t at HW HV t0 t1
            generalize sm T i j = sj at s0 m0 m1 HV
            go_wp2_with fail
            go_region_with (go_at_call 32; refine (HW.out _).mono ?_; rintro e w' ⟨rfl, rfl⟩)
            all_goals
              go_wp2
              go_roundw
              case rel =>
                refine ⟨i + 1, by omega, by go_num, ?_, ?_, ?_⟩
                · refine ((IS.out.set i _).drew).congr fun q _ => ?_
                  unfold intF
                  by_cases hq : q = i
                  · subst hq; simp [HV.out]
                  · simp only [hq, if_false]
                    congr 1
                    by_cases h1 : q < i
                    · rw [if_pos h1, if_pos (by omega)]
                    · rw [if_neg h1, if_neg (by omega)]
                · exact owns_kept KO2.out (Deep.blk_setCell_other _ _ _ _ hgS)
                · exact (IB.out.setCell (p := ⟨S, i, none⟩) (by show w.heap.size ≤ S; omega) _).drew
              case measure => simp [intOf]; omega
          · have hiI : ¬ ((i : Int) < (L : Int)) := by omega
            have IR : wr.rowIs S 62 8 (intF fun q => sm T q (j + 1)) := IS.out.congr fun q hq => by
              unfold intF
              congr 1
              by_cases h1 : q < i
              · simp [h1]
              · have := HL.out.out q (by omega)
                simp only [h1, if_false, sm, this]
                omega
            obtain ⟨c0, c1, c2, c3, c4, c5, c6, c7⟩ := row_cells IR
            have HR := Lib.hid IR
            have hSl := IR.lt
            have HN := Lib.hid (show ∀ q u, (sumC T (j + 1))[q]? = some u → (wr.alloc (.cells (ar fun q => sm T q (j + 1)) 62)).cell? ((⟨wr.heap.size, 0, none⟩ : Addr).add q) = some u from fun q u hu => World.news_of_block (cs := ar fun q => sm T q (j + 1)) (t := 62) (fr := (0, 0)) (heap_alloc_new wr _) q u hu)
            have hzi := IB.out.size
            clear IR IS
            go_wp2_with (at_builtin; refine wpList_append_lies _ rfl (.tmp 35) (.tmp 37) 54 rfl w.heap.size 62 i0 _ 8 64 Try.underlying54 hi0 hz0 hz1 hz2 rfl (by decide) _ _ _ rfl (World.ownsRow.alloc KO2.out _) ⟨wr.heap.size, 0, none⟩ 1 1 (sumC T (j + 1)) rfl rfl HN.out (sumC_one T (j + 1)) (by omega) (by unfold maxLen; omega) (by omega) (by simp; omega) (wr.heap.size + 1) (by simp) ?_; intro g2 cap2 w2 hown2 hgrow hat hlt2)
            go_roundw
            case rel =>
              refine ⟨j + 1, g2, cap2, by omega, by go_num, rfl, ?_, ?_, ?_, ?_⟩
              · exact hown2
              · rcases hat with hat | hat
                · cases hat; exact hgS
                · omega
              · exact (HR.out.alloc _).of_block (hgrow.block S (by simp; omega) (fun e => hgS (by cases e; rfl)))
              · exact (IB.out.alloc hzi _).grown hgrow (by simp; omega) (fun k e => by cases e; exact (owns_lt KO2.out).1)
            case measure => simp [intOf]; omega

    · have hjI : ¬ ((j : Int) < (n : Int)) := by omega
      obtain rfl : j = n := by omega
      have HU := Lib.hid (show Sums wr g j T from fun r hr q hq => by
        have := World.ownsRow.cells KO.out rfl (r * 8 + q) _ (flatS_get T (show r < j + 1 by omega) hq)
        rw [Go.WideShapes.add_plain] at this
        simpa using this)
      go_wp2
      go_ret
      exact ⟨g, cap, rfl, HU.out, (owns_lt KO.out).1, KB.out⟩
end Go.Proofs.Ytdkkoeiceaolnaa
