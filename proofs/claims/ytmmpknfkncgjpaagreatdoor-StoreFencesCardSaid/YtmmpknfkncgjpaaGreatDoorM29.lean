/-
  isNew, Free, sectors (package shelf), by contracts.

  sectors, lowest (package shelf), slices.Index at bools, by contracts.

  write (package shelf): a record is written twice, with mark 0, with mark 1; then the block lies there; by a contract.
-/
import Derived.Test.YtmmpknfkncgjpaaGreatDoorM28
namespace Go.Proofs.YtmmpknfkncgjpaaGreatDoor
open Go.RowKit

section
variable {w : World} {sb mb pb : Nat} {s : St} {L : Lay} {odd : List Nat} {lost : Bool} {F : Nat → Prop}
set_option maxRecDepth 100000 in
set_option maxHeartbeats 2000000 in
theorem isNew_any (h : SF w sb mb pb s L odd lost F) (b : Bk) (hid : i64 b.id) :
    Calls Tryz.prog 95 #[.pointer (some ⟨sb, 0, none⟩), b.val] w fun e w' => e = .returned (.bool (newer L b)) ∧ Below w.heap.size w w' := by
  have hb1 : Below w.heap.size w (w.alloc (.cells b.cells 34)).drew := ((Below.refl _ _).alloc (Nat.le_refl _) _).drew
  have h1 := h.below hb1
  obtain ⟨-, k0, -⟩ := h1.cells
  have k1 := h1.tm.look hid
  have hb2 : Below w.heap.size w ((w.alloc (.cells b.cells 34)).alloc (.cells #[.int .i64 0, .int .i64 0, .string ⟨#[]⟩, .int .i64 0] 144)).drew := (((Below.refl _ _).alloc (Nat.le_refl _) _).alloc (by simp) _).drew
  have h2 := h.below hb2
  have k2 := h2.tm.look hid
  obtain ⟨-, k3, -⟩ := h2.cells
  obtain ⟨-, k4, -⟩ := h.cells
  have hG := h.good
  unfold newer
  clear h h1 h2 hb1 hb2
  cases hg : getL L b.id with
  | none =>
    rw [hg] at k1 k2
    simp only [Option.isSome_none] at k1 k2 ⊢
    generalize placeL L b.id = y at k1 k2
    go_enter Tryz.func95, Tryz.ntmps95
    go_wp2_with fail
    go_region
    all_goals
      go_wp2
      go_ret
      exact ⟨rfl, by go_grown⟩
  | some c =>
    obtain ⟨⟨i, hi⟩, e⟩ := getL_some hg
    have e2 := place_at hG hi
    rw [e] at e2
    rw [hg, e2] at k1 k2
    simp only [Option.isSome_some] at k1 k2 ⊢
    clear e2
    go_enter Tryz.func95, Tryz.ntmps95
    go_wp2_with fail
    go_region
    all_goals
      go_wp2
      go_ret
      exact ⟨rfl, by go_grown⟩

set_option maxRecDepth 100000 in
theorem free_any (h : SF w sb mb pb s L odd lost F) (hl : s.is.length ≤ 128) :
    Calls Tryz.prog 132 #[.pointer (some ⟨sb, 0, none⟩)] w fun e w' => e = .returned (.int .i64 ((s.is.length : Int) - (cnt L : Int))) ∧ Below w.heap.size w w' := by
  have hc := cnt_le L
  have hG := h.good.hi
  have hw : IntKind.i64.wrap ((s.is.length : Int) - (cnt L : Int)) = (s.is.length : Int) - (cnt L : Int) := IntWalk.i64_in _ (by omega)
  obtain ⟨c0, c1, -⟩ := h.cells
  have hb : Below w.heap.size w w.drew := (Below.refl _ _).drew
  have D1 := Lib.hid (h.below hb)
  obtain ⟨c0', c1', -⟩ := D1.out.cells
  have hlen := fun ty => D1.out.tm.len ty
  obtain ⟨Fp, hP, -⟩ := D1.out.pl
  have HS := Lib.hid (size_any pb s Fp _ hP)
  clear hb hc hG hP
  go_enter Tryz.func132, Tryz.ntmps132
  go_wp2_with fail
  go_region_held3 (fun w' => w'.cell? ⟨sb, 0, none⟩ = some (.pointer (some ⟨pb, 0, none⟩)) ∧ w'.cell? ⟨sb, 1, none⟩ = some (.map (some mb)) ∧ ∀ ty, (Builtin.len_ #[142] ty #[.map (some mb)]).run Tryz.prog w' = .ok (.int .i64 (cnt L)) w')
    (first | exact ⟨D1.out.cells.1, D1.out.cells.2.1, D1.out.tm.len⟩ | fail)
    (first
      | (go_at_call 120; with_reducible refine HS.out.mono ?_; rintro e w' ⟨rfl, rfl⟩)
      | fail)
  go_wp2
  go_ret
  exact ⟨rfl, (Below.refl _ _).drew⟩
end
end Go.Proofs.YtmmpknfkncgjpaaGreatDoor

namespace Go.Proofs.YtmmpknfkncgjpaaGreatDoor
open Go.RowKit

theorem info_str9 : (Tryz.prog.info? 9).map (fun i => (i.zero, i.size, i.bytes)) = some (some (.string ⟨#[]⟩), 1, 16) := by kernel_rfl
/-- The first i sectors' bytes, in a row. -/
def secF (s : St) (i j : Nat) : Value := if j < i then .string (str (readB s j)) else .string ⟨#[]⟩
theorem secF_step (s : St) (i j : Nat) : (if j = i then Value.string (str (readB s i)) else secF s i j) = secF s (i + 1) j := by
  unfold secF
  by_cases e : j = i
  · subst e; rw [if_pos rfl, if_pos (by omega)]
  · rw [if_neg e]
    by_cases h : j < i
    · rw [if_pos h, if_pos (by omega)]
    · rw [if_neg h, if_neg (by omega)]
set_option maxRecDepth 100000 in
set_option maxHeartbeats 2000000 in
theorem sectors_any (pb n : Nat) (s : St) (F : Nat → Prop) (w : World) (h : PB w pb s F) (hg : Good s) (hgo : s.gone = false) (hn : s.is.length = n) :
    Calls Tryz.prog 92 #[.pointer (some ⟨pb, 0, none⟩)] w fun e w' => ∃ g, e = .returned (.slice (some ⟨g, 0, none⟩) n n) ∧ w.heap.size ≤ g ∧ w'.rowIs g 9 n (secF s n) ∧ Below w.heap.size w w' := by
  have hlo := hg.lo
  have hhi := hg.hi
  have HS := Lib.hid (size_any pb s F w h)
  rw [hn] at HS
  have hmk : (Instr.makeSlice 43 (.int .i64 (n : Int)) (.int .i64 (n : Int))).run Tryz.prog w = .ok (.slice (some ⟨w.heap.size, 0, none⟩) n n) (w.alloc (.cells (Go.madeCells #[.string ⟨#[]⟩] n) 9)) :=
    run_make_row' 43 9 _ 16 Tryz.underlying43 info_str9 rfl .i64 .i64 n (by omega) (by omega) w
  have hrow := World.rowIs_made w (.string ⟨#[]⟩) n 9
  have hb0 : Below w.heap.size w (w.alloc (.cells (Go.madeCells #[.string ⟨#[]⟩] n) 9)) := (Below.refl _ _).alloc (Nat.le_refl _) _
  have HF := Lib.hid h.lt
  have HP := Lib.hid (h.below hb0)
  have HR := Lib.hid hrow
  have HB := Lib.hid hb0
  have HG := Lib.hid hg
  have HW := Lib.hid (fun i (hi : i < n) => wrong_in hgo (i := i) (by rw [hn]; exact hi))
  clear h hrow hb0 hg hgo hlo
  generalize w.alloc (.cells (Go.madeCells #[.string ⟨#[]⟩] n) 9) = w0 at hmk HP HR HB
  go_enter Tryz.func92, Tryz.ntmps92
  go_wp2_with fail
  go_at_call 120
  refine HS.out.mono ?_
  rintro e w' ⟨rfl, rfl⟩
  go_wp2
  go_loopw [10] (fun iv wr => ∃ i : Nat, i ≤ n ∧ iv = .int .i64 i ∧ PB wr pb s F ∧ wr.rowIs w.heap.size 9 n (secF s i) ∧ Below w.heap.size w wr) (fun iv _ => n - (RowKit.intOf iv).toNat)
  case atStart => exact ⟨0, Nat.zero_le _, rfl, HP.out, HR.out.congr fun j hj => by unfold secF; rw [if_neg (by omega)], HB.out⟩
  case round =>
    obtain ⟨i, hi, rfl, hP, hR, hB⟩ := hrel
    by_cases hlt : i < n
    · have hlI : (i : Int) < (n : Int) := by omega
      have hiI : (0 : Int) ≤ (i : Int) := by omega
      have hrd := Lib.hid (read_any pb s F (i : Int) wr hP HG.out)
      have hw0 := HW.out i hlt
      have hrv : readV s (i : Int) = readB s i := by unfold readV; rw [hw0, if_neg (by omega), Int.toNat_natCast]
      rw [hrv, hw0] at hrd
      clear hrv hw0
      have hPl := hP
      have HP1 := Lib.hid hP
      have HR1 := Lib.hid hR
      have HB1 := Lib.hid hB
      clear hP hR hB hPl
      go_wp2_with fail
      go_at_call 121
      refine hrd.out.mono ?_
      rintro e w1 ⟨rfl, k2⟩
      have hR1 := HR1.out.of_block (k2.block _ HR1.out.lt)
      have c0 := hR1.cell hlt
      have f0 := hR1.frozen i
      have HP2 := Lib.hid ((HP1.out.below k2).keeps (Keeps.set (Keeps.refl (fun k => k = w.heap.size) w1) (b := w.heap.size) (o := i) (.inl rfl) (.string (str (readB s i)))) (fun k hk e => by subst e; exact absurd (HF.out _ hk) (Nat.lt_irrefl _)))
      have HR2 := Lib.hid ((hR1.set i (.string (str (readB s i)))).congr fun j _ => secF_step s i j)
      have HB2 := Lib.hid (((HB1.out.trans (k2.mono HB1.out.size))).setCell (p := ⟨w.heap.size, i, none⟩) (Nat.le_refl _) (.string (str (readB s i))))
      clear k2 hR1
      go_wp2
      go_roundw
      case rel => exact ⟨i + 1, by omega, by go_num, HP2.out, HR2.out, HB2.out⟩
      case measure => simp [RowKit.intOf]; omega
    · have hlI : ¬ ((i : Int) < (n : Int)) := by omega
      obtain rfl : i = n := by omega
      have HR1 := Lib.hid hR
      have HB1 := Lib.hid hB
      clear hP hR hB
      go_wp2
      go_ret
      exact ⟨_, rfl, Nat.le_refl _, HR1.out, HB1.out⟩

/-! ### slices.Index at bools -/
set_option maxRecDepth 100000 in
set_option maxHeartbeats 2000000 in
/-- Index of the first false one. -/
theorem index_any (g n : Nat) (f : Nat → Bool) (k : Nat) (w : World) (hn : n ≤ 1000) (hc : ∀ j, j < n → w.cell? ⟨g, j, none⟩ = some (.bool (f j))) (hk : k < n) (h0 : ∀ j, j < k → f j = true) (h1 : f k = false) :
    Calls Tryz.prog 133 #[.slice (some ⟨g, 0, none⟩) n n, .bool false] w fun e w' => e = .returned (.int .i64 (k : Int)) ∧ w = w' := by
  have HC := Lib.hid hc
  have H0 := Lib.hid h0
  clear hc h0
  go_enter Tryz.func133, Tryz.ntmps133
  go_wp2
  go_loop [8] (fun iv => ∃ i : Nat, i ≤ k ∧ iv = .int .i64 i) (fun iv => n - (RowKit.intOf iv).toNat)
  case atStart => exact ⟨0, Nat.zero_le _, rfl⟩
  case round =>
    obtain ⟨i, hi, rfl⟩ := hrel
    have hlI : (i : Int) < (n : Int) := by omega
    have hiI : (0 : Int) ≤ (i : Int) := by omega
    have c0 := HC.out i (by omega)
    by_cases hlt : i < k
    · rw [H0.out i hlt] at c0
      go_wp2
      go_round
      case rel => exact ⟨i + 1, by omega, by go_num⟩
      case measure => simp [RowKit.intOf]; omega
    · obtain rfl : i = k := by omega
      rw [h1] at c0
      go_wp2
      go_ret
      exact ⟨rfl, rfl⟩

/-! ### lowest -/
def zb (n : Nat) : Array Value := Array.replicate n (.bool false)
theorem zb_eq : Tryz.zeroCells206 = zb 128 := by kernel_rfl
/-- Which sectors were seen. -/
structure Tk (w : World) (g : Nat) (L : Lay) (left : Lit → Bool) (T : Nat → Bool) : Prop where
  row : w.rowIs g 206 128 (fun o => .bool (T o))
  lay : ∀ o, T o = true → ∃ b, At L o b
  all : ∀ o b, At L o b → lf left b = true ∨ T o = true
theorem low_at {L : Lay} {T : Nat → Bool} (h1 : ∀ o, T o = true → ∃ b, At L o b) (h2 : ∀ o b, At L o b → T o = true) (hl : low L < L.length) : (∀ j, j < low L → T j = true) ∧ T (low L) = false := by
  refine ⟨fun j hj => ?_, ?_⟩
  · obtain ⟨b, hb⟩ := low_before hj
    exact h2 j b hb
  · cases hT : T (low L) with
    | false => rfl
    | true =>
      obtain ⟨b, hb⟩ := h1 _ hT
      exact ((low_free hl).not hb).elim
theorem grownBelow {w w' : World} (h : Below w.heap.size w w') : w.grownBy w' none := ⟨h.os, h.tape, h.output, h.size, fun k hk _ => h.block k hk⟩
theorem grownSet (w : World) (b o : Nat) (v : Value) : w.grownBy (w.setCell ⟨b, o, none⟩ v) (some b) := ⟨rfl, rfl, rfl, by simp [World.setCell], fun k _ hn => Below.heap_setCell _ _ _ _ (fun e => hn (by rw [e]))⟩
set_option maxRecDepth 100000 in
set_option maxHeartbeats 4000000 in
theorem lowest_any {w : World} {sb mb pb : Nat} {s : St} {L : Lay} {odd : List Nat} {lost : Bool} {F : Nat → Prop} (h : SF w sb mb pb s L odd lost F) (hl : low L < L.length) :
    Calls Tryz.prog 105 #[.pointer (some ⟨sb, 0, none⟩)] w fun e w' => e = .returned (.int .i64 (low L : Int)) ∧ Below w.heap.size w w' := by
  have hG := Lib.hid h.good
  have hbl : Below w.heap.size w (w.alloc (.cells Tryz.zeroCells206 206)) := (Below.refl _ _).alloc (Nat.le_refl _) _
  have hr0 : (w.alloc (.cells Tryz.zeroCells206 206)).rowIs w.heap.size 206 128 (fun _ => .bool false) := by
    have := World.rowIs_alloc w (zb 128) 206 (fun _ => .bool false) (fun i hi => by rw [show (zb 128)[i]? = if i < 128 then some (Value.bool false) else none from by simp [zb, Array.getElem?_replicate], if_pos (by simpa [zb] using hi)])
    rw [zb_eq]
    rwa [show (zb 128).size = 128 by simp [zb]] at this
  obtain ⟨c0, c1, c3⟩ := (h.below hbl).cells
  have HT := Lib.hid (h.below hbl).tm
  have hw0 : (w.alloc (.cells Tryz.zeroCells206 206)).heap.size = w.heap.size + 1 := by simp
  have HR0 := Lib.hid hr0
  have HB0 := Lib.hid hbl
  clear h hr0 hbl
  go_enter Tryz.func105, Tryz.ntmps105
  go_wp2_with (at_range; refine wpList_range_pl _ rfl _ rfl mb L rfl HT.out ?_; intro w1 left0 cnt0 hrg0 hl0 hg0 hs0)
  rw [hw0] at hrg0 ⊢
  have HR1 : Tk w1 w.heap.size L left0 (fun _ => false) := ⟨HR0.out.of_block (hg0.block _ HR0.out.lt (by simp)), fun o h => by simp at h, fun o b hb => .inl (hl0 o b hb)⟩
  have HB1 : Below w.heap.size w w1 := below_grown HB0.out hg0 HB0.out.size (by simp)
  go_frame
  go_loopw [12] (fun v wr => ∃ (left : Lit → Bool) (c : Nat) (T : Nat → Bool), Rg wr mb (w.heap.size + 1) (cnt L) L left c ∧ Tk wr w.heap.size L left T ∧ Below w.heap.size w wr)
    (fun _ wr => wr.rangeLeft mb (w.heap.size + 1))
  case atStart => exact ⟨left0, cnt0, _, hrg0, HR1, HB1⟩
  case round =>
    obtain ⟨left, c, T, hrg, hT, hB⟩ := hrel
    have HR := Lib.hid hrg
    have HRm := Lib.hid hrg.left_eq
    have HTk := Lib.hid hT
    have HN := Lib.hid hB
    clear hrg hT hB hg0 hs0 hl0 hrg0 HR1 HB1
    go_wp2_with (first
      | (at_next; refine wpList_next_pl _ rfl _ rfl mb (w.heap.size + 1) (cnt L) L left c rfl HR.out ?_ ?_)
      | go_in)
    · intro hdone
      obtain ⟨l1, l2⟩ := low_at HTk.out.lay (fun o b hb => by rcases HTk.out.all o b hb with h | h; (rw [show lf left b = false from hdone _] at h; cases h); (exact h)) hl
      have hhi := hG.out.hi
      have HI := Lib.hid (index_any w.heap.size 128 T (low L) wr (by omega) (fun j hj => HTk.out.row.cell hj) (by omega) l1 l2)
      clear hdone l1 l2
      go_wp2_with fail
      go_at_call 133
      refine HI.out.mono ?_
      rintro e w' ⟨rfl, rfl⟩
      go_wp2
      go_ret
      exact ⟨rfl, HN.out⟩
    · intro i y w2 left2 c2 hy h1 h3 hrg2 hlt hg2 hs2 hen
      have hhi := hG.out.hi
      have hyl := hy.lt
      have hr2 := HTk.out.row.of_block (hg2.block _ HTk.out.row.lt (fun e => (HR.out.ne_cells (HTk.out.row.cell (by omega : 0 < 128))).1 (Option.some.inj e).symm))
      have hba : Below w2.heap.size w2 (w2.alloc (.cells (⟨y, i⟩ : Plc).cells 144)) := (Below.refl _ _).alloc (Nat.le_refl _) _
      have hr3 := hr2.of_block (hba.block _ hr2.lt)
      have d0 := hr3.cell (i := i) (by omega)
      have f0 := hr3.frozen i
      have hiI : (0 : Int) ≤ (i : Int) := by omega
      have hiJ : (i : Int) < 128 := by omega
      have HT3 := Lib.hid (show Tk ((w2.alloc (.cells (⟨y, i⟩ : Plc).cells 144)).setCell ⟨w.heap.size, i, none⟩ (.bool true)) w.heap.size L left2 (fun o => if o = i then true else T o) from ⟨(hr3.set i (.bool true)).congr fun o _ => by split <;> rfl, fun o ho => by
        by_cases e : o = i
        · subst e; exact ⟨y, hy⟩
        · simp only [e, if_false] at ho; exact HTk.out.lay o ho, fun o b hb => by
        by_cases e : o = i
        · right; simp [e]
        · rcases HTk.out.all o b hb with h | h
          · left; rw [h3 o b hb e]; exact h
          · right; simp only [e, if_false]; exact h⟩)
      have HN2 := below_grown HN.out hg2 HN.out.size (by rintro k ⟨rfl⟩; omega)
      have HN3 := Lib.hid (((HN2.trans (hba.mono HN2.size)).setCell (p := ⟨w.heap.size, i, none⟩) (Nat.le_refl _) (.bool true)))
      have HR3 := Lib.hid ((hrg2.kept (grownBelow hba) (by simp) (by simp)).kept (grownSet _ w.heap.size i (.bool true)) (fun e => (HR.out.ne_cells (HTk.out.row.cell (by omega : 0 < 128))).2 (Option.some.inj e)) (fun e => (HR.out.ne_cells (HTk.out.row.cell (by omega : 0 < 128))).1 (Option.some.inj e)))
      clear hrg2 hg2 hs2 h1 h3 hr2 hr3 hba HN2
      go_wp2
      go_roundw
      case rel => exact ⟨left2, c2, _, HR3.out, HT3.out, HN3.out⟩
      case measure => rw [HR3.out.left_eq, HRm.out]; exact hlt
end Go.Proofs.YtmmpknfkncgjpaaGreatDoor

namespace Go.Proofs.YtmmpknfkncgjpaaGreatDoor
open Go.RowKit

section
variable {F : Nat → Prop} {w w0 w1 : World} {sb mb pb : Nat} {s : St} {L : Lay} {odd : List Nat} {lost : Bool}
theorem Sg.ahead (hb : Below w.heap.size w w0) (h : Sg F w0 w1 sb mb pb s L odd lost) : Sg F w w1 sb mb pb s L odd lost := Goes.trans (F1 := F) (fun _ h => .inl h) (Keeps.of_below hb) h
theorem sg_write (h : Sg F w0 w1 sb mb pb s L odd lost) (hg : Good s) (hn : s.wait.length ≤ 900) (hc : s.n ≤ 1000000) (i : Int) (t : ByteArray) (ht : t.size ≤ 9223372036854775807) :
    Calls Tryz.prog 109 #[.pointer (some ⟨pb, 0, none⟩), .int .i64 i, .string t] w1 fun e w2 => e = .returned (.int .i64 (writeE s i t)) ∧ Sg F w0 w2 sb mb pb (writeS s i t) L odd lost := by
  obtain ⟨F1, h1, h2⟩ := h.go
  obtain ⟨Fp, hP, hk⟩ := h1.pl
  exact (write_any pb s Fp i t w1 hP hg hn hc ht).mono fun e w' ⟨he, hg'⟩ => ⟨he, h2 _ _ _ _ _ (hk _ _ hg')⟩
theorem sg_sync (h : Sg F w0 w1 sb mb pb s L odd lost) (hg : Good s) (hn : s.wait.length ≤ 1000) (hc : s.n ≤ 1000000) :
    Calls Tryz.prog 110 #[.pointer (some ⟨pb, 0, none⟩)] w1 fun e w2 => e = .returned (.int .i64 (syncE s)) ∧ Sg F w0 w2 sb mb pb (syncS s) L odd lost := by
  obtain ⟨F1, h1, h2⟩ := h.go
  obtain ⟨Fp, hP, hk⟩ := h1.pl
  exact (sync_any pb s Fp w1 hP hg hn hc).mono fun e w' ⟨he, hg'⟩ => ⟨he, h2 _ _ _ _ _ (hk _ _ hg')⟩
/-- The map alone turns. -/
theorem Sg.turned (h : Sg F w0 w1 sb mb pb s L odd lost) {w2 : World} {L2 : Lay} (ht : w1.mapTurned w2 mb) (h2 : Tm w2 mb L2) : Sg F w0 w2 sb mb pb s L2 odd lost := by
  obtain ⟨F1, h1, k⟩ := h.go
  obtain ⟨vb, hS, hk⟩ := h1.own
  have hg := ht.grown
  have hB : ∀ k, k < w1.heap.size → k ≠ mb → w2.heap[k]? = w1.heap[k]? := fun k hk hn => hg.block k hk (fun e => hn (Option.some.inj e))
  refine k _ _ _ _ _ (hk w2 vb L2 odd lost ⟨hS.row.of_block (hB _ hS.row.lt (Ne.symm hS.ne)), h2, owns_kept hS.bad fun g hg' => hB g (owns_lt hS.bad hg') (fun e => hS.ne_bad_map (by rw [hg', e]))⟩ ⟨hg.os, hg.tape, hg.output, hg.size, fun k hk hn => hB k hk (fun e => hn (.inr (.inl e)))⟩ (fun k hk => .inl hk))
end
/-- The five ways of it. -/
theorem wr_a {s : St} {i : Nat} {b : Bk} (h1 : writeE s i (recB b 0) ≠ 0) : wrE s i b = writeE s i (recB b 0) ∧ wrS s i b = writeS s i (recB b 0) := by
  have : wr1E s i (recB b 0) = writeE s i (recB b 0) := if_pos h1
  unfold wrE wrS
  rw [this, if_pos h1, if_pos h1]
  exact ⟨rfl, if_pos h1⟩
theorem wr_b {s : St} {i : Nat} {b : Bk} (h1 : writeE s i (recB b 0) = 0) (h2 : syncE (writeS s i (recB b 0)) ≠ 0) : wrE s i b = syncE (writeS s i (recB b 0)) ∧ wrS s i b = syncS (writeS s i (recB b 0)) := by
  have e1 : wr1E s i (recB b 0) = syncE (writeS s i (recB b 0)) := if_neg (by omega)
  have e2 : wr1S s i (recB b 0) = syncS (writeS s i (recB b 0)) := if_neg (by omega)
  unfold wrE wrS
  rw [e1, if_pos h2, if_pos h2, e2]
  exact ⟨rfl, rfl⟩
theorem wr_c {s : St} {i : Nat} {b : Bk} (h1 : writeE s i (recB b 0) = 0) (h2 : syncE (writeS s i (recB b 0)) = 0) : wrE s i b = wr1E (syncS (writeS s i (recB b 0))) i (recB b 1) ∧ wrS s i b = wr1S (syncS (writeS s i (recB b 0))) i (recB b 1) := by
  have e1 : wr1E s i (recB b 0) = syncE (writeS s i (recB b 0)) := if_neg (by omega)
  have e2 : wr1S s i (recB b 0) = syncS (writeS s i (recB b 0)) := if_neg (by omega)
  unfold wrE wrS
  rw [e1, if_neg (by omega), if_neg (by omega), e2]
  exact ⟨rfl, rfl⟩
theorem wr1_no {s : St} {i : Nat} {t : ByteArray} (h : writeE s i t ≠ 0) : wr1E s i t = writeE s i t ∧ wr1S s i t = writeS s i t := ⟨if_pos h, if_pos h⟩
theorem wr1_yes {s : St} {i : Nat} {t : ByteArray} (h : writeE s i t = 0) : wr1E s i t = syncE (writeS s i t) ∧ wr1S s i t = syncS (writeS s i t) := ⟨if_neg (by omega), if_neg (by omega)⟩
/-- What lies there behind it. -/
def wrY (L : Lay) (s : St) (i : Nat) (b : Bk) : Lay := if wrE s i b = 0 then putL L i b else L

set_option maxRecDepth 100000 in
set_option maxHeartbeats 4000000 in
theorem swrite_any {F : Nat → Prop} {w : World} {sb mb pb : Nat} {s : St} {L : Lay} {odd : List Nat} {lost : Bool} {n k : Nat} (h : SF w sb mb pb s L odd lost F) (hT : Tab w) (hF : ¬ F 1) (hR : Rest s n k) (hk : k ≤ 900000) {b : Bk} (hb : refE b 1 = 0) {i : Nat} (hi : Fre L i) :
    Calls Tryz.prog 104 #[.pointer (some ⟨sb, 0, none⟩), b.val, .int .i64 (i : Int)] w fun e w' => e = .returned (.int .i64 (wrE s i b)) ∧ Sg F w w' sb mb pb (wrS s i b) (wrY L s i b) odd lost := by
  have hb0 : Below w.heap.size w (w.alloc (.cells b.cells 34)) := (Below.refl _ _).alloc (Nat.le_refl _) _
  have hz := (refE_zero.1 hb).2
  have h0 := refE_mark hb
  have HF := Lib.hid hF
  have HFz := Lib.hid (fun (e : F w.heap.size) => Nat.lt_irrefl _ (h.lt _ e))
  have HB := Lib.hid hb0
  have A0 := Lib.hid (AB.fresh w b)
  have T0 := Lib.hid (hT.below hb0)
  have S0 := Lib.hid (Sg.start (h.below hb0))
  have g0 := hR.good
  have hw0 := hR.wait
  have hn0 := hR.few
  have hrs0 := recB_size hz 0
  have hrs1 := recB_size hz 1
  have r0 := recV_yes h0
  have r1 := recV_yes hb
  obtain ⟨q0, hq0⟩ : ∃ x, recB b 0 = x := ⟨_, rfl⟩
  obtain ⟨q1, hq1⟩ : ∃ x, recB b 1 = x := ⟨_, rfl⟩
  have RA := Lib.hid (fun w (T : Tab w) => h0 ▸ r0 ▸ record_any b 0 w T (by omega))
  have RB := Lib.hid (fun w (T : Tab w) => hb ▸ r1 ▸ record_any b 1 w T (by omega))
  have Wa := @wr_a s i b
  have Wb := @wr_b s i b
  have Wc := @wr_c s i b
  have HYY := Lib.hid (show wrE s i b ≠ 0 → wrY L s i b = L from fun e => if_neg e)
  have HYP := Lib.hid (show wrE s i b = 0 → wrY L s i b = putL L i b from fun e => if_pos e)
  rw [hq0] at RA Wa Wb Wc hrs0
  rw [hq1] at RB Wc hrs1
  have HI := Lib.hid hi
  have HBk := Lib.hid hb
  have hwl : s.wait.length = 0 := by rw [hw0]; rfl
  clear hT hb0 hF h r0 r1 hq0 hq1 hi hw0 hb h0 hR
  -- the four calls
  have g1 := g0.write i q0
  have n1 := write_n s i q0
  have l1 := write_wait s i q0
  generalize hs1 : writeS s i q0 = s1 at g1 n1 l1 Wa Wb Wc
  generalize he1 : writeE s i q0 = e1 at Wa Wb Wc
  have g2 := g1.sync
  have n2 := sync_n s1
  have l2 := sync_wait s1
  generalize hs2 : syncS s1 = s2 at g2 n2 l2 Wb Wc
  generalize he2 : syncE s1 = e2 at Wb Wc
  have W1 := @wr1_no s2 i q1
  have W2 := @wr1_yes s2 i q1
  have g3 := g2.write i q1
  have n3 := write_n s2 i q1
  have l3 := write_wait s2 i q1
  generalize hs3 : writeS s2 i q1 = s3 at g3 n3 l3 W1 W2
  generalize he3 : writeE s2 i q1 = e3 at W1 W2
  generalize hs4 : syncS s3 = s4 at W2
  generalize he4 : syncE s3 = e4 at W2
  have P1 := Lib.hid (fun w1 (S : Sg F (w.alloc (.cells b.cells 34)) w1 sb mb pb s L odd lost) => hs1 ▸ he1 ▸ sg_write S g0 (by omega) (by omega) i q0 (by omega))
  have P2 := Lib.hid (fun w1 (S : Sg F (w.alloc (.cells b.cells 34)) w1 sb mb pb s1 L odd lost) => hs2 ▸ he2 ▸ sg_sync S g1 (by omega) (by omega))
  have P3 := Lib.hid (fun w1 (S : Sg F (w.alloc (.cells b.cells 34)) w1 sb mb pb s2 L odd lost) => hs3 ▸ he3 ▸ sg_write S g2 (by omega) (by omega) i q1 (by omega))
  have P4 := Lib.hid (fun w1 (S : Sg F (w.alloc (.cells b.cells 34)) w1 sb mb pb s3 L odd lost) => hs4 ▸ he4 ▸ sg_sync S g3 (by omega) (by omega))
  clear hs1 he1 hs2 he2 hs3 he3 hs4 he4 g0 g1 g2 g3 n1 n2 n3 l1 l2 l3 hwl hn0
  obtain ⟨wE, hwE⟩ : ∃ x, wrE s i b = x := ⟨_, rfl⟩
  obtain ⟨wS, hwS⟩ : ∃ x, wrS s i b = x := ⟨_, rfl⟩
  obtain ⟨wY, hwY⟩ : ∃ x, wrY L s i b = x := ⟨_, rfl⟩
  rw [hwE, hwS] at Wa Wb Wc
  rw [hwE, hwY] at HYY HYP
  rw [hwE, hwS, hwY]
  have WA := Lib.hid Wa
  have WB := Lib.hid Wb
  have WC := Lib.hid Wc
  have WD := Lib.hid W1
  have WE := Lib.hid W2
  clear hwE hwS hwY Wa Wb Wc W1 W2
  go_enter Tryz.func104, Tryz.ntmps104
  go_wp2_with fail
  generalize hW0 : w.alloc (.cells #[.int .i64 b.id, .int .i64 b.ver, .string b.data] 34) = w0 at HB A0 T0 S0 P1 P2 P3 P4 ⊢
  refine wp_loop_rounds 3 ?_
  rw [rounds_succ]
  obtain ⟨d0, d1, d2⟩ := A0.out.all
  go_wp2_with fail
  go_at_call 125
  refine (RA.out _ T0.out).mono ?_
  rintro e w1 ⟨rfl, k2⟩
  have S1 := Lib.hid (S0.out.below k2)
  have A1 := Lib.hid (A0.out.below k2)
  have T1 := Lib.hid (T0.out.below k2)
  clear k2 d0 d1 d2
  obtain ⟨c0, -, -⟩ := S1.out.cells
  go_wp2_with fail
  go_at_call 109
  refine (P1.out _ S1.out).mono ?_
  rintro e w2 ⟨rfl, k2⟩
  have S2 := Lib.hid k2
  clear k2 c0
  by_cases h1 : e1 = 0
  · obtain ⟨c0, -, -⟩ := S2.out.cells
    have WB1 := Lib.hid (WB.out h1)
    have WC1 := Lib.hid (WC.out h1)
    subst h1
    go_wp2_with fail
    go_at_call 110
    refine (P2.out _ S2.out).mono ?_
    rintro e w3 ⟨rfl, k2⟩
    have S3 := Lib.hid k2
    clear k2 c0
    by_cases h2 : e2 = 0
    · have WC2 := Lib.hid (WC1.out h2)
      subst h2
      have A3 := Lib.hid (S3.out.ab A0.out HFz.out)
      have T3 := Lib.hid (S3.out.tab T0.out HF.out)
      obtain ⟨d0, d1, d2⟩ := A3.out.all
      go_wp2_with fail
      rw [rounds_succ]
      obtain ⟨c0, -, -⟩ := S3.out.cells
      go_wp2_with fail
      go_at_call 125
      refine (RB.out _ T3.out).mono ?_
      rintro e w4 ⟨rfl, k2⟩
      have S4 := Lib.hid (S3.out.below k2)
      have A4 := Lib.hid (A3.out.below k2)
      clear k2 d0 d1 d2 c0
      obtain ⟨c0, -, -⟩ := S4.out.cells
      go_wp2_with fail
      go_at_call 109
      refine (P3.out _ S4.out).mono ?_
      rintro e w5 ⟨rfl, k2⟩
      have S5 := Lib.hid k2
      clear k2 c0
      by_cases h3 : e3 = 0
      · obtain ⟨c0, -, -⟩ := S5.out.cells
        have WE1 := Lib.hid (WE.out h3)
        subst h3
        go_wp2_with fail
        go_at_call 110
        refine (P4.out _ S5.out).mono ?_
        rintro e w6 ⟨rfl, k2⟩
        have S6 := Lib.hid k2
        clear k2 c0
        obtain ⟨z1, z2⟩ := WE1.out
        obtain ⟨z3, z4⟩ := WC2.out
        rw [z1] at z3
        rw [z2] at z4
        subst z3
        subst z4
        by_cases h4 : wE = 0
        · obtain rfl := HYP.out h4
          subst h4
          have A6 := Lib.hid (S6.out.ab A0.out HFz.out)
          obtain ⟨d0, d1, d2⟩ := A6.out.all
          obtain ⟨-, c1, -⟩ := S6.out.cells
          have hbd : Below w6.heap.size w6 w6.drew := (Below.refl _ _).drew
          have S7 := Lib.hid (S6.out.below hbd)
          obtain ⟨w7, hrun, k1, k2⟩ := S7.out.tm.put HBk.out HI.out
          have S8 := Lib.hid (S7.out.turned k2 k1)
          clear k1 k2 hbd
          go_wp2_with fail
          rw [rounds_succ]
          go_wp2_with fail
          go_region
          all_goals
            go_wp2
            go_ret
            exact ⟨rfl, Sg.ahead HB.out S8.out⟩
        · obtain rfl : wY = L := HYY.out h4
          have hbad2 : (wE == 0) = false := by simpa using h4
          go_wp2
          go_ret
          exact ⟨rfl, Sg.ahead HB.out S6.out⟩
      · obtain ⟨z1, z2⟩ := WD.out h3
        obtain ⟨z3, z4⟩ := WC2.out
        rw [z1] at z3
        rw [z2] at z4
        subst z3
        subst z4
        obtain rfl : wY = L := HYY.out h3
        have hbad2 : (wE == 0) = false := by simpa using h3
        go_wp2
        go_ret
        exact ⟨rfl, Sg.ahead HB.out S5.out⟩
    · obtain ⟨rfl, rfl⟩ := WB1.out h2
      obtain rfl : wY = L := HYY.out h2
      have hbad2 : (wE == 0) = false := by simpa using h2
      go_wp2
      go_ret
      exact ⟨rfl, Sg.ahead HB.out S3.out⟩
  · obtain ⟨rfl, rfl⟩ := WA.out h1
    obtain rfl : wY = L := HYY.out h1
    have hbad2 : (wE == 0) = false := by simpa using h1
    go_wp2
    go_ret
    exact ⟨rfl, Sg.ahead HB.out S2.out⟩
end Go.Proofs.YtmmpknfkncgjpaaGreatDoor
