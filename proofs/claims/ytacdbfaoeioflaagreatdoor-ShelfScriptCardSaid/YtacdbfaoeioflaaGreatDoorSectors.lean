/-
  sectors, lowest (package shelf), slices.Index at bools, by contracts.
-/
import Derived.Test.YtacdbfaoeioflaaGreatDoorShelf2
namespace Go.Proofs.YtacdbfaoeioflaaGreatDoor
open Go.RowKit

theorem info_str : (Tryz.prog.info? 9).map (fun i => (i.zero, i.size, i.bytes)) = some (some (.string ⟨#[]⟩), 1, 16) := by kernel_rfl
/-- The first i sectors' bytes, in a row. -/
def secF (s : St) (i j : Nat) : Value := if j < i then .string (str (readB s j)) else .string ⟨#[]⟩
theorem secF_step (s : St) (i j : Nat) : (if j = i then Value.string (str (readB s i)) else secF s i j) = secF s (i + 1) j := by
  unfold secF
  by_cases e : j = i
  · subst e; rw [if_pos rfl, if_pos (by omega)]
  · rw [if_neg e]
    by_cases h : j < i
    · rw [if_pos h, if_pos (by omega)]
    · rw [if_neg h, if_neg (by omega)]
set_option maxRecDepth 100000 in
set_option maxHeartbeats 2000000 in
theorem sectors_any (pb n : Nat) (s : St) (F : Nat → Prop) (w : World) (h : PB w pb s F) (hg : Good s) (hgo : s.gone = false) (hn : s.is.length = n) :
    Calls Tryz.prog 40 #[.pointer (some ⟨pb, 0, none⟩)] w fun e w' => ∃ g, e = .returned (.slice (some ⟨g, 0, none⟩) n n) ∧ w.heap.size ≤ g ∧ w'.rowIs g 9 n (secF s n) ∧ Below w.heap.size w w' := by
  have hlo := hg.lo
  have hhi := hg.hi
  have HS := Lib.hid (size_any pb s F w h)
  rw [hn] at HS
  have hmk : (Instr.makeSlice 58 (.int .i64 (n : Int)) (.int .i64 (n : Int))).run Tryz.prog w = .ok (.slice (some ⟨w.heap.size, 0, none⟩) n n) (w.alloc (.cells (Go.madeCells #[.string ⟨#[]⟩] n) 9)) :=
    run_make_row' 58 9 _ 16 Tryz.underlying58 info_str rfl .i64 .i64 n (by omega) (by omega) w
  have hrow := World.rowIs_made w (.string ⟨#[]⟩) n 9
  have hb0 : Below w.heap.size w (w.alloc (.cells (Go.madeCells #[.string ⟨#[]⟩] n) 9)) := (Below.refl _ _).alloc (Nat.le_refl _) _
  have HF := Lib.hid h.lt
  have HP := Lib.hid (h.below hb0)
  have HR := Lib.hid hrow
  have HB := Lib.hid hb0
  have HG := Lib.hid hg
  have HW := Lib.hid (fun i (hi : i < n) => wrong_in hgo (i := i) (by rw [hn]; exact hi))
  clear h hrow hb0 hg hgo hlo
  generalize w.alloc (.cells (Go.madeCells #[.string ⟨#[]⟩] n) 9) = w0 at hmk HP HR HB
  go_enter Tryz.func40, Tryz.ntmps40
  go_wp2_with fail
  go_at_call 64
  refine HS.out.mono ?_
  rintro e w' ⟨rfl, rfl⟩
  go_wp2
  go_loopw [10] (fun iv wr => ∃ i : Nat, i ≤ n ∧ iv = .int .i64 i ∧ PB wr pb s F ∧ wr.rowIs w.heap.size 9 n (secF s i) ∧ Below w.heap.size w wr) (fun iv _ => n - (RowKit.intOf iv).toNat)
  case atStart => exact ⟨0, Nat.zero_le _, rfl, HP.out, HR.out.congr fun j hj => by unfold secF; rw [if_neg (by omega)], HB.out⟩
  case round =>
    obtain ⟨i, hi, rfl, hP, hR, hB⟩ := hrel
    by_cases hlt : i < n
    · have hlI : (i : Int) < (n : Int) := by omega
      have hiI : (0 : Int) ≤ (i : Int) := by omega
      have hrd := Lib.hid (read_any pb s F (i : Int) wr hP HG.out)
      have hw0 := HW.out i hlt
      have hrv : readV s (i : Int) = readB s i := by unfold readV; rw [hw0, if_neg (by omega), Int.toNat_natCast]
      rw [hrv, hw0] at hrd
      clear hrv hw0
      have hPl := hP
      have HP1 := Lib.hid hP
      have HR1 := Lib.hid hR
      have HB1 := Lib.hid hB
      clear hP hR hB hPl
      go_wp2_with fail
      go_at_call 69
      refine hrd.out.mono ?_
      rintro e w1 ⟨rfl, k2⟩
      have hR1 := HR1.out.of_block (k2.block _ HR1.out.lt)
      have c0 := hR1.cell hlt
      have f0 := hR1.frozen i
      have HP2 := Lib.hid ((HP1.out.below k2).keeps (Keeps.set (Keeps.refl (fun k => k = w.heap.size) w1) (b := w.heap.size) (o := i) (.inl rfl) (.string (str (readB s i)))) (fun k hk e => by subst e; exact absurd (HF.out _ hk) (Nat.lt_irrefl _)))
      have HR2 := Lib.hid ((hR1.set i (.string (str (readB s i)))).congr fun j _ => secF_step s i j)
      have HB2 := Lib.hid (((HB1.out.trans (k2.mono HB1.out.size))).setCell (p := ⟨w.heap.size, i, none⟩) (Nat.le_refl _) (.string (str (readB s i))))
      clear k2 hR1
      go_wp2
      go_roundw
      case rel => exact ⟨i + 1, by omega, by go_num, HP2.out, HR2.out, HB2.out⟩
      case measure => simp [RowKit.intOf]; omega
    · have hlI : ¬ ((i : Int) < (n : Int)) := by omega
      obtain rfl : i = n := by omega
      have HR1 := Lib.hid hR
      have HB1 := Lib.hid hB
      clear hP hR hB
      go_wp2
      go_ret
      exact ⟨_, rfl, Nat.le_refl _, HR1.out, HB1.out⟩

/-! ### slices.Index at bools -/
set_option maxRecDepth 100000 in
set_option maxHeartbeats 2000000 in
/-- Index of the first false one. -/
theorem index_any (g n : Nat) (f : Nat → Bool) (k : Nat) (w : World) (hn : n ≤ 1000) (hc : ∀ j, j < n → w.cell? ⟨g, j, none⟩ = some (.bool (f j))) (hk : k < n) (h0 : ∀ j, j < k → f j = true) (h1 : f k = false) :
    Calls Tryz.prog 80 #[.slice (some ⟨g, 0, none⟩) n n, .bool false] w fun e w' => e = .returned (.int .i64 (k : Int)) ∧ w = w' := by
  have HC := Lib.hid hc
  have H0 := Lib.hid h0
  clear hc h0
  go_enter Tryz.func80, Tryz.ntmps80
  go_wp2
  go_loop [8] (fun iv => ∃ i : Nat, i ≤ k ∧ iv = .int .i64 i) (fun iv => n - (RowKit.intOf iv).toNat)
  case atStart => exact ⟨0, Nat.zero_le _, rfl⟩
  case round =>
    obtain ⟨i, hi, rfl⟩ := hrel
    have hlI : (i : Int) < (n : Int) := by omega
    have hiI : (0 : Int) ≤ (i : Int) := by omega
    have c0 := HC.out i (by omega)
    by_cases hlt : i < k
    · rw [H0.out i hlt] at c0
      go_wp2
      go_round
      case rel => exact ⟨i + 1, by omega, by go_num⟩
      case measure => simp [RowKit.intOf]; omega
    · obtain rfl : i = k := by omega
      rw [h1] at c0
      go_wp2
      go_ret
      exact ⟨rfl, rfl⟩

/-! ### lowest -/
def zb (n : Nat) : Array Value := Array.replicate n (.bool false)
theorem zb_eq : Tryz.zeroCells133 = zb 128 := by kernel_rfl
/-- Which sectors were seen. -/
structure Tk (w : World) (g : Nat) (L : Lay) (left : Lit → Bool) (T : Nat → Bool) : Prop where
  row : w.rowIs g 133 128 (fun o => .bool (T o))
  lay : ∀ o, T o = true → ∃ b, At L o b
  all : ∀ o b, At L o b → lf left b = true ∨ T o = true
theorem low_at {L : Lay} {T : Nat → Bool} (h1 : ∀ o, T o = true → ∃ b, At L o b) (h2 : ∀ o b, At L o b → T o = true) (hl : low L < L.length) : (∀ j, j < low L → T j = true) ∧ T (low L) = false := by
  refine ⟨fun j hj => ?_, ?_⟩
  · obtain ⟨b, hb⟩ := low_before hj
    exact h2 j b hb
  · cases hT : T (low L) with
    | false => rfl
    | true =>
      obtain ⟨b, hb⟩ := h1 _ hT
      exact ((low_free hl).not hb).elim
theorem grownBelow {w w' : World} (h : Below w.heap.size w w') : w.grownBy w' none := ⟨h.os, h.tape, h.output, h.size, fun k hk _ => h.block k hk⟩
theorem grownSet (w : World) (b o : Nat) (v : Value) : w.grownBy (w.setCell ⟨b, o, none⟩ v) (some b) := ⟨rfl, rfl, rfl, by simp [World.setCell], fun k _ hn => Below.heap_setCell _ _ _ _ (fun e => hn (by rw [e]))⟩
set_option maxRecDepth 100000 in
set_option maxHeartbeats 4000000 in
theorem lowest_any {w : World} {sb mb pb : Nat} {s : St} {L : Lay} {odd : List Nat} {lost : Bool} {F : Nat → Prop} (h : SF w sb mb pb s L odd lost F) (hl : low L < L.length) :
    Calls Tryz.prog 50 #[.pointer (some ⟨sb, 0, none⟩)] w fun e w' => e = .returned (.int .i64 (low L : Int)) ∧ Below w.heap.size w w' := by
  have hG := Lib.hid h.good
  have hbl : Below w.heap.size w (w.alloc (.cells Tryz.zeroCells133 133)) := (Below.refl _ _).alloc (Nat.le_refl _) _
  have hr0 : (w.alloc (.cells Tryz.zeroCells133 133)).rowIs w.heap.size 133 128 (fun _ => .bool false) := by
    have := World.rowIs_alloc w (zb 128) 133 (fun _ => .bool false) (fun i hi => by rw [show (zb 128)[i]? = if i < 128 then some (Value.bool false) else none from by simp [zb, Array.getElem?_replicate], if_pos (by simpa [zb] using hi)])
    rw [zb_eq]
    rwa [show (zb 128).size = 128 by simp [zb]] at this
  obtain ⟨c0, c1, c3⟩ := (h.below hbl).cells
  have HT := Lib.hid (h.below hbl).tm
  have hw0 : (w.alloc (.cells Tryz.zeroCells133 133)).heap.size = w.heap.size + 1 := by simp
  have HR0 := Lib.hid hr0
  have HB0 := Lib.hid hbl
  clear h hr0 hbl
  go_enter Tryz.func50, Tryz.ntmps50
  go_wp2_with (at_range; refine wpList_range_pl _ rfl _ rfl mb L rfl HT.out ?_; intro w1 left0 cnt0 hrg0 hl0 hg0 hs0)
  rw [hw0] at hrg0 ⊢
  have HR1 : Tk w1 w.heap.size L left0 (fun _ => false) := ⟨HR0.out.of_block (hg0.block _ HR0.out.lt (by simp)), fun o h => by simp at h, fun o b hb => .inl (hl0 o b hb)⟩
  have HB1 : Below w.heap.size w w1 := below_grown HB0.out hg0 HB0.out.size (by simp)
  go_frame
  go_loopw [12] (fun v wr => ∃ (left : Lit → Bool) (c : Nat) (T : Nat → Bool), Rg wr mb (w.heap.size + 1) (cnt L) L left c ∧ Tk wr w.heap.size L left T ∧ Below w.heap.size w wr)
    (fun _ wr => wr.rangeLeft mb (w.heap.size + 1))
  case atStart => exact ⟨left0, cnt0, _, hrg0, HR1, HB1⟩
  case round =>
    obtain ⟨left, c, T, hrg, hT, hB⟩ := hrel
    have HR := Lib.hid hrg
    have HRm := Lib.hid hrg.left_eq
    have HTk := Lib.hid hT
    have HN := Lib.hid hB
    clear hrg hT hB hg0 hs0 hl0 hrg0 HR1 HB1
    go_wp2_with (first
      | (at_next; refine wpList_next_pl _ rfl _ rfl mb (w.heap.size + 1) (cnt L) L left c rfl HR.out ?_ ?_)
      | go_in)
    · intro hdone
      obtain ⟨l1, l2⟩ := low_at HTk.out.lay (fun o b hb => by rcases HTk.out.all o b hb with h | h; (rw [show lf left b = false from hdone _] at h; cases h); (exact h)) hl
      have hhi := hG.out.hi
      have HI := Lib.hid (index_any w.heap.size 128 T (low L) wr (by omega) (fun j hj => HTk.out.row.cell hj) (by omega) l1 l2)
      clear hdone l1 l2
      go_wp2_with fail
      go_at_call 80
      refine HI.out.mono ?_
      rintro e w' ⟨rfl, rfl⟩
      go_wp2
      go_ret
      exact ⟨rfl, HN.out⟩
    · intro i y w2 left2 c2 hy h1 h3 hrg2 hlt hg2 hs2 hen
      have hhi := hG.out.hi
      have hyl := hy.lt
      have hr2 := HTk.out.row.of_block (hg2.block _ HTk.out.row.lt (fun e => (HR.out.ne_cells (HTk.out.row.cell (by omega : 0 < 128))).1 (Option.some.inj e).symm))
      have hba : Below w2.heap.size w2 (w2.alloc (.cells (⟨y, i⟩ : Plc).cells 86)) := (Below.refl _ _).alloc (Nat.le_refl _) _
      have hr3 := hr2.of_block (hba.block _ hr2.lt)
      have d0 := hr3.cell (i := i) (by omega)
      have f0 := hr3.frozen i
      have hiI : (0 : Int) ≤ (i : Int) := by omega
      have hiJ : (i : Int) < 128 := by omega
      have HT3 := Lib.hid (show Tk ((w2.alloc (.cells (⟨y, i⟩ : Plc).cells 86)).setCell ⟨w.heap.size, i, none⟩ (.bool true)) w.heap.size L left2 (fun o => if o = i then true else T o) from ⟨(hr3.set i (.bool true)).congr fun o _ => by split <;> rfl, fun o ho => by
        by_cases e : o = i
        · subst e; exact ⟨y, hy⟩
        · simp only [e, if_false] at ho; exact HTk.out.lay o ho, fun o b hb => by
        by_cases e : o = i
        · right; simp [e]
        · rcases HTk.out.all o b hb with h | h
          · left; rw [h3 o b hb e]; exact h
          · right; simp only [e, if_false]; exact h⟩)
      have HN2 := below_grown HN.out hg2 HN.out.size (by rintro k ⟨rfl⟩; omega)
      have HN3 := Lib.hid (((HN2.trans (hba.mono HN2.size)).setCell (p := ⟨w.heap.size, i, none⟩) (Nat.le_refl _) (.bool true)))
      have HR3 := Lib.hid ((hrg2.kept (grownBelow hba) (by simp) (by simp)).kept (grownSet _ w.heap.size i (.bool true)) (fun e => (HR.out.ne_cells (HTk.out.row.cell (by omega : 0 < 128))).2 (Option.some.inj e)) (fun e => (HR.out.ne_cells (HTk.out.row.cell (by omega : 0 < 128))).1 (Option.some.inj e)))
      clear hrg2 hg2 hs2 h1 h3 hr2 hr3 hba HN2
      go_wp2
      go_roundw
      case rel => exact ⟨left2, c2, _, HR3.out, HT3.out, HN3.out⟩
      case measure => rw [HR3.out.left_eq, HRm.out]; exact hlt
end Go.Proofs.YtacdbfaoeioflaaGreatDoor
