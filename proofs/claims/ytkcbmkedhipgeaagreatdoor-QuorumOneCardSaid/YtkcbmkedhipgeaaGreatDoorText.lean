/-
  The writer of package field, by contracts.

  The writer's Num, by contracts: what fits is written, the lowest byte first; what does not is ErrArg, and nothing is written.

  A new writer, and the writer's Bytes, by contracts; what is kept of a writer when other memory turns.

  The writer's Text, by contracts: its length in two bytes, and it; what is too long is ErrLong, and nothing is written.
-/
import Derived.Test.YtkcbmkedhipgeaaGreatDoorChain
import Derived.Deep.AppendLies
import Derived.Deep.RegionHeld3
import Derived.Deep.RegionLaw
import Derived.PlainAid
import Derived.Laws.BytesArg
import Derived.Lib.AppendStr
namespace Go.Proofs.YtkcbmkedhipgeaaGreatDoor
open Go.RowKit Go.Extern.Stop Go.Stop Go.Extern

theorem isWidth_yes (k : Int) (w : World) (h : k = 1 ∨ k = 2 ∨ k = 4 ∨ k = 8) :
    Calls Tryz.prog 81 #[.int .i64 k] w fun e w' => e = .returned (.bool true) ∧ w = w' := by
  rcases h with rfl | rfl | rfl | rfl
  all_goals
    go_enter Tryz.func81, Tryz.ntmps81
    go_wp2
    go_ret
    exact ⟨rfl, rfl⟩
theorem isWidth_no (k : Int) (w : World) (h1 : k ≠ 1) (h2 : k ≠ 2) (h4 : k ≠ 4) (h8 : k ≠ 8) :
    Calls Tryz.prog 81 #[.int .i64 k] w fun e w' => e = .returned (.bool false) ∧ w = w' := by
  go_enter Tryz.func81, Tryz.ntmps81
  go_wp2
  go_ret
  exact ⟨rfl, rfl⟩

set_option maxRecDepth 100000 in
theorem split1 (n : Int) (w : World) :
    Calls Tryz.prog 90 #[.int .u64 n, .int .i64 1] w fun e w' => e = .returned (.agg #[.int .u8 (n % 256), .int .u8 0, .int .u8 0, .int .u8 0, .int .u8 0, .int .u8 0, .int .u8 0, .int .u8 0]) ∧ Below w.heap.size w w' := by
  go_enter Tryz.func90, Tryz.ntmps90
  go_wp2
  go_returns
  exact ⟨rfl, by go_grown⟩
set_option maxRecDepth 100000 in
theorem split2 (n : Int) (w : World) :
    Calls Tryz.prog 90 #[.int .u64 n, .int .i64 2] w fun e w' => e = .returned (.agg #[.int .u8 (n % 256), .int .u8 (n / 256 % 256), .int .u8 0, .int .u8 0, .int .u8 0, .int .u8 0, .int .u8 0, .int .u8 0]) ∧ Below w.heap.size w w' := by
  go_enter Tryz.func90, Tryz.ntmps90
  go_wp2
  go_returns
  exact ⟨rfl, by go_grown⟩
set_option maxRecDepth 100000 in
theorem split4 (n : Int) (w : World) :
    Calls Tryz.prog 90 #[.int .u64 n, .int .i64 4] w fun e w' => e = .returned (.agg #[.int .u8 (n % 256), .int .u8 (n / 256 % 256), .int .u8 (n / 65536 % 256), .int .u8 (n / 16777216 % 256), .int .u8 0, .int .u8 0, .int .u8 0, .int .u8 0]) ∧ Below w.heap.size w w' := by
  go_enter Tryz.func90, Tryz.ntmps90
  go_wp2
  go_returns
  exact ⟨rfl, by go_grown⟩
set_option maxRecDepth 100000 in
theorem split8 (n : Int) (w : World) :
    Calls Tryz.prog 90 #[.int .u64 n, .int .i64 8] w fun e w' => e = .returned (.agg #[.int .u8 (n % 256), .int .u8 (n / 256 % 256), .int .u8 (n / 65536 % 256), .int .u8 (n / 16777216 % 256), .int .u8 (n / 4294967296 % 256), .int .u8 (n / 1099511627776 % 256), .int .u8 (n / 281474976710656 % 256), .int .u8 (n / 72057594037927936 % 256)]) ∧ Below w.heap.size w w' := by
  go_enter Tryz.func90, Tryz.ntmps90
  go_wp2
  go_returns
  exact ⟨rfl, by go_grown⟩

theorem infoByte : (Tryz.prog.info? 5).map (fun i => (i.zero, i.size, i.bytes)) = some (some (.int .u8 0), 1, 1) := by kernel_rfl

/-- A writer in block b: its bytes bs, in a row of its own behind it (row: that row's block). -/
def Wrt (w : World) (b : Nat) (row : Option Nat) (bs : List Int) : Prop :=
  ∃ s, w.cell? ⟨b, 0, none⟩ = some s ∧ w.frozen? ⟨b, 0, none⟩ = false ∧ w.ownsRow (b + 1) 5 1 s bs.length (bs.map (Value.int .u8)) ∧ s.ownBlock = row

/-- From w to w' only block b, the block 'row' and new ones have turned. -/
structure Fr (b : Nat) (row : Option Nat) (w w' : World) : Prop where
  os : w'.os = w.os
  tape : w'.tape = w.tape
  output : w'.output = w.output
  size : w.heap.size ≤ w'.heap.size
  block : ∀ k, k < w.heap.size → k ≠ b → some k ≠ row → w'.heap[k]? = w.heap[k]?

theorem nums_oneCell (l : List Int) (κ : IntKind) : ∀ u ∈ l.map (Value.int κ), u.oneCell' = true := fun u hu => by
  obtain ⟨x, _, rfl⟩ := List.mem_map.1 hu; rfl
theorem take_news (l : List Int) (k : Nat) (κ : IntKind) (j : Nat) (u : Value) (h : ((l.take k).map (Value.int κ))[j]? = some u) : (l.map (Value.int κ))[j]? = some u := by
  rw [List.getElem?_map, List.getElem?_take] at h
  split at h
  · rw [List.getElem?_map]; exact h
  · simp at h

/-- The row is the old one, or a new block. -/
def RowOk (row row' : Option Nat) (w : World) : Prop := row' = row ∨ ∃ g, row' = some g ∧ w.heap.size ≤ g

theorem Wrt.stored {w2 : World} {b g n cap : Nat} {s : Value} {cs : List Int} (hc : w2.cell? ⟨b, 0, none⟩ = some s) (hf : w2.frozen? ⟨b, 0, none⟩ = false) (hn : n = cs.length)
    (hown : w2.ownsRow (b + 1) 5 1 (.slice (some ⟨g, 0, none⟩) n cap) n (cs.map (Value.int .u8))) :
    Wrt (w2.setCell ⟨b, 0, none⟩ (.slice (some ⟨g, 0, none⟩) n cap)) b (some g) cs := by
  subst hn
  exact ⟨_, World.cell?_setCell_same _ _ _ hc, by rw [World.frozen?_setCell]; exact hf, ownsRow_setCell_below hown (Nat.lt_succ_self b) _, rfl⟩

theorem Fr.put {b : Nat} {row srow : Option Nat} {w w1 w2 : World} {o : Obj} {v : Value} (hb : Below w.heap.size w w1) (hg : (w1.alloc o).drew.grownBy w2 srow) (hr : srow = row) : Fr b row w (w2.setCell ⟨b, 0, none⟩ v) := by
  subst hr
  have hz := hb.size
  have hz2 : w1.heap.size + 1 ≤ w2.heap.size := by have := hg.size; simpa using this
  refine ⟨hg.os.trans hb.os, hg.tape.trans hb.tape, hg.output.trans hb.output, by simp [World.setCell]; omega, fun k hk hkb hkr => ?_⟩
  rw [Below.heap_setCell _ _ _ _ (by simpa using hkb), hg.block k (by simp; omega) hkr]
  exact (Below.heap_alloc w1 o k (by omega)).trans (hb.block k hk)

set_option maxRecDepth 100000 in
set_option maxHeartbeats 3200000 in
theorem put_of (b : Nat) (row : Option Nat) (bs : List Int) (n : Int) (k : Nat) (p0 p1 p2 p3 p4 p5 p6 p7 : Int) (w : World) (hk0 : 0 < k) (hk8 : k ≤ 8) (hn : IntKind.u64.wrap n = n)
    (hsp : ∀ w, Calls Tryz.prog 90 #[.int .u64 n, .int .i64 k] w fun e w' => e = .returned (.agg #[.int .u8 p0, .int .u8 p1, .int .u8 p2, .int .u8 p3, .int .u8 p4, .int .u8 p5, .int .u8 p6, .int .u8 p7]) ∧ Below w.heap.size w w')
    (hW : Wrt w b row bs) (hl : bs.length ≤ 100000000) :
    Calls Tryz.prog 83 #[.pointer (some ⟨b, 0, none⟩), .int .i64 n, .int .i64 k] w fun e w' => e = .returned (.tuple #[]) ∧
      ∃ row', Wrt w' b row' (bs ++ [p0, p1, p2, p3, p4, p5, p6, p7].take k) ∧ RowOk row row' w ∧ Fr b row w w' := by
  obtain ⟨s, hs, hsf, hown, hrow⟩ := hW
  obtain ⟨i0, hi0, hz0, hz1, hz2⟩ := info_parts infoByte
  have hbl := cell_lt hs
  have HS := Lib.hid hs
  have HF := Lib.hid hsf
  have HO := Lib.hid hown
  have HR := Lib.hid hrow
  clear hs hsf hown hrow
  go_enter Tryz.func83, Tryz.ntmps83
  go_wp2_with fail
  go_at_call 90
  refine (hsp w).mono ?_
  rintro e w1 ⟨rfl, hb1⟩
  have hz := hb1.size
  have hs1 : w1.cell? ⟨b, 0, none⟩ = some s := by rw [hb1.cell (p := ⟨b, 0, none⟩) hbl]; exact HS.out
  have hown1 := ownsRow_below hb1 HO.out
  have HB := Lib.hid hb1
  clear hb1 hsp
  go_wp2_with fail
  have hf1 : w1.frozen? ⟨b, 0, none⟩ = false := by rw [HB.out.frozen (p := ⟨b, 0, none⟩) hbl]; exact HF.out
  have hne : s.ownBlock ≠ some b := fun h => by have := (HO.out.lt b h).1; omega
  have hkI0 : (0 : Int) ≤ (k : Int) := Int.natCast_nonneg _
  have hkI8 : (k : Int) ≤ 8 := by omega
  have hbl1 : b < w1.heap.size := by omega
  have hnews : ∀ j u, (([p0, p1, p2, p3, p4, p5, p6, p7].take k).map (Value.int .u8))[j]? = some u → ((w1.alloc (.cells #[.int .u8 p0, .int .u8 p1, .int .u8 p2, .int .u8 p3, .int .u8 p4, .int .u8 p5, .int .u8 p6, .int .u8 p7] 153)).drew).cell? ((⟨w1.heap.size, 0, none⟩ : Addr).add j) = some u := fun j u hu =>
    World.news_of_block (cs := #[.int .u8 p0, .int .u8 p1, .int .u8 p2, .int .u8 p3, .int .u8 p4, .int .u8 p5, .int .u8 p6, .int .u8 p7]) (t := 153) (fr := (0, 0)) (heap_alloc_new w1 _) j u (take_news _ _ _ _ _ hu)
  have HF1 := Lib.hid (show ((w1.alloc (.cells #[.int .u8 p0, .int .u8 p1, .int .u8 p2, .int .u8 p3, .int .u8 p4, .int .u8 p5, .int .u8 p6, .int .u8 p7] 153)).drew).frozen? ⟨b, 0, none⟩ = false from (World.frozen?_alloc_old w1 _ ⟨b, 0, none⟩ (Nat.ne_of_lt hbl1)).trans hf1)
  have HC1 := Lib.hid (show ((w1.alloc (.cells #[.int .u8 p0, .int .u8 p1, .int .u8 p2, .int .u8 p3, .int .u8 p4, .int .u8 p5, .int .u8 p6, .int .u8 p7] 153)).drew).cell? ⟨b, 0, none⟩ = some s from (World.cell?_alloc_lt w1 _ ⟨b, 0, none⟩ hbl1).trans hs1)
  have HN := Lib.hid hnews
  clear hnews
  go_region_law
    ((refine step_append_lies _ (by rfl) _ _ _ (by rfl) (b + 1) 5 i0 _ 1 1 Tryz.underlying140 hi0 hz0 hz1 hz2 rfl (by omega) s bs.length (bs.map (Value.int .u8)) (by rfl) ((hown1.alloc _).drew)
        ⟨w1.heap.size, 0, none⟩ k 8 (([p0, p1, p2, p3, p4, p5, p6, p7].take k).map (Value.int .u8)) (by rfl) (by simp; omega) HN.out (nums_oneCell _ _)
        (by omega) (by unfold maxLen; omega) (by omega) (by simp; omega) (w1.heap.size + 1) (by simp) ?_; intro g cap w2 hown2 hgrow hat hlt; (have hf2 : w2.frozen? ⟨b, 0, none⟩ = false := by rw [hgrow.frozen_far _ (by simp; omega) (Ne.symm hne)]; exact HF1.out); (have hc2 : w2.cell? ⟨b, 0, none⟩ = some s := by rw [hgrow.cell_far _ (by simp; omega) (Ne.symm hne)]; exact HC1.out)))
  go_wp2
  go_end0
  refine ⟨rfl, some g, Wrt.stored hc2 hf2 (by simp; omega) (by simpa using hown2), ?_, Fr.put HB.out hgrow (HR.out ▸ rfl)⟩
  rcases hat with h | h
  · exact .inl (by rw [← h]; exact HR.out)
  · exact .inr ⟨g, rfl, by omega⟩
end Go.Proofs.YtkcbmkedhipgeaaGreatDoor

namespace Go.Proofs.YtkcbmkedhipgeaaGreatDoor
open Go.RowKit Go.Extern.Stop Go.Stop Go.Extern Go.PlainAid

/-- The k lowest bytes of n, the lowest first. -/
def leb (n : Int) (k : Nat) : List Int :=
  [n % 256, n / 256 % 256, n / 65536 % 256, n / 16777216 % 256, n / 4294967296 % 256, n / 1099511627776 % 256, n / 281474976710656 % 256, n / 72057594037927936 % 256].take k

def Width (k : Int) : Prop := k = 1 ∨ k = 2 ∨ k = 4 ∨ k = 8

/-- n fits into k bytes. -/
def Fits (n k : Int) : Prop := 0 ≤ n ∧ ((k = 1 ∧ n < 256) ∨ (k = 2 ∧ n < 65536) ∨ (k = 4 ∧ n < 4294967296) ∨ (k = 8 ∧ n ≤ 9223372036854775807))

theorem put_any (b : Nat) (row : Option Nat) (bs : List Int) (n k : Int) (w : World) (hk : Width k) (h0 : 0 ≤ n) (h1 : n ≤ 9223372036854775807) (hW : Wrt w b row bs) (hl : bs.length ≤ 100000000) :
    Calls Tryz.prog 83 #[.pointer (some ⟨b, 0, none⟩), .int .i64 n, .int .i64 k] w fun e w' => e = .returned (.tuple #[]) ∧
      ∃ row', Wrt w' b row' (bs ++ leb n k.toNat) ∧ RowOk row row' w ∧ Fr b row w w' := by
  have hn : IntKind.u64.wrap n = n := u64_nonneg h0 (by omega)
  rcases hk with rfl | rfl | rfl | rfl
  · exact put_of b row bs n 1 _ 0 0 0 0 0 0 0 w (by omega) (by omega) hn (fun w => split1 n w) hW hl
  · exact put_of b row bs n 2 _ _ 0 0 0 0 0 0 w (by omega) (by omega) hn (fun w => split2 n w) hW hl
  · exact put_of b row bs n 4 _ _ _ _ 0 0 0 0 w (by omega) (by omega) hn (fun w => split4 n w) hW hl
  · exact put_of b row bs n 8 _ _ _ _ _ _ _ _ w (by omega) (by omega) hn (fun w => split8 n w) hW hl

/-- Wrap of a number that is not OK: a new Fault. -/
theorem wrap_new (E at_ : Int) (u : Value) (es : List Int) (w : World) (hE : E ≠ 0) (hu : Chained w u es) :
    Calls Tryz.prog 89 #[.int .i64 E, .int .i64 at_, u] w fun e w' => ∃ v, e = .returned v ∧ Chained w' v (E :: es) ∧ Below w.heap.size w w' := by
  have hE' : (E == 0) = false := by simpa using hE
  have done : ∀ x, (∃ t y, x = Value.iface t y) ∨ x = .nilIface → Chained w x es → Calls Tryz.prog 89 #[.int .i64 E, .int .i64 at_, x] w fun e w' => ∃ v, e = .returned v ∧ Chained w' v (E :: es) ∧ Below w.heap.size w w' := by
    intro x hx hu
    have hb : Below w.heap.size w (w.alloc (.cells #[.int .i64 E, .int .i64 at_, x] 162)) := (Below.refl _ _).alloc (Nat.le_refl _) _
    have HU := Lib.hid (hu.below hb)
    have HB := Lib.hid hb
    clear hu hb
    rcases hx with ⟨t, y, rfl⟩ | rfl
    all_goals
      go_enter Tryz.func89, Tryz.ntmps89
      go_wp2
      go_ret
      exact ⟨_, rfl, ⟨w.heap.size, 0, _, rfl, by simp, by simp, HU.out⟩, HB.out⟩
  cases es with
  | nil => exact done u (.inr hu) hu
  | cons e es => exact done u (by obtain ⟨b, o, y, rfl, _⟩ := hu; exact .inl ⟨_, _, rfl⟩) hu

/-- The writer's fault. -/
theorem wfault (b : Nat) (row : Option Nat) (bs : List Int) (E : Int) (w : World) (hE : E ≠ 0) (hW : Wrt w b row bs) :
    Calls Tryz.prog 82 #[.pointer (some ⟨b, 0, none⟩), .int .i64 E] w fun e w' => ∃ v, e = .returned v ∧ Chained w' v [E] ∧ Below w.heap.size w w' := by
  obtain ⟨s, hs, hsf, hown, hrow⟩ := hW
  rcases owned_form hown with ⟨rfl, _, _⟩ | ⟨g, cap, rfl, _⟩
  all_goals
    clear hown hrow hsf
    go_enter Tryz.func82, Tryz.ntmps82
    go_wp2_with (go_at_call 89; refine (wrap_new E _ .nilIface [] _ hE rfl).mono ?_; rintro e w' ⟨v, rfl, hc, hb⟩)
    go_ret
    exact ⟨v, rfl, hc, hb⟩

/-- Num of what fits. -/
theorem num_ok (b : Nat) (row : Option Nat) (bs : List Int) (n k : Int) (w : World) (hf : Fits n k) (hW : Wrt w b row bs) (hl : bs.length ≤ 100000000) :
    Calls Tryz.prog 65 #[.pointer (some ⟨b, 0, none⟩), .int .i64 n, .int .i64 k] w fun e w' => e = .returned .nilIface ∧
      ∃ row', Wrt w' b row' (bs ++ leb n k.toNat) ∧ RowOk row row' w ∧ Fr b row w w' := by
  obtain ⟨h0, hf⟩ := hf
  have hw : Width k := by unfold Width; omega
  have h1 : n ≤ 9223372036854775807 := by omega
  have hn : IntKind.u64.wrap n = n := u64_nonneg h0 (by omega)
  have HP := Lib.hid (put_any b row bs n k w hw h0 h1 hW hl)
  clear hW h1
  rcases hf with ⟨rfl, h⟩ | ⟨rfl, h⟩ | ⟨rfl, h⟩ | ⟨rfl, h⟩
  · have hq : n / 256 = 0 := by omega
    clear h
    go_enter Tryz.func65, Tryz.ntmps65
    go_wp2_with (first
      | (go_at_call 81; refine (isWidth_yes _ _ hw).mono ?_; rintro e w' ⟨rfl, rfl⟩)
      | (go_at_call 83; refine HP.out.mono ?_; rintro e w' ⟨rfl, hP⟩))
    go_ret
    exact ⟨rfl, hP⟩
  · have hq : n / 65536 = 0 := by omega
    clear h
    go_enter Tryz.func65, Tryz.ntmps65
    go_wp2_with (first
      | (go_at_call 81; refine (isWidth_yes _ _ hw).mono ?_; rintro e w' ⟨rfl, rfl⟩)
      | (go_at_call 83; refine HP.out.mono ?_; rintro e w' ⟨rfl, hP⟩))
    go_ret
    exact ⟨rfl, hP⟩
  · have hq : n / 4294967296 = 0 := by omega
    clear h
    go_enter Tryz.func65, Tryz.ntmps65
    go_wp2_with (first
      | (go_at_call 81; refine (isWidth_yes _ _ hw).mono ?_; rintro e w' ⟨rfl, rfl⟩)
      | (go_at_call 83; refine HP.out.mono ?_; rintro e w' ⟨rfl, hP⟩))
    go_ret
    exact ⟨rfl, hP⟩
  · have hq : n / 18446744073709551616 = 0 := by omega
    clear h
    go_enter Tryz.func65, Tryz.ntmps65
    go_wp2_with (first
      | (go_at_call 81; refine (isWidth_yes _ _ hw).mono ?_; rintro e w' ⟨rfl, rfl⟩)
      | (go_at_call 83; refine HP.out.mono ?_; rintro e w' ⟨rfl, hP⟩))
    go_ret
    exact ⟨rfl, hP⟩

/-- Num of what does not fit. -/
theorem num_bad (b : Nat) (row : Option Nat) (bs : List Int) (n k : Int) (w : World) (hf : ¬ Fits n k) (h1 : n ≤ 9223372036854775807) (hW : Wrt w b row bs) :
    Calls Tryz.prog 65 #[.pointer (some ⟨b, 0, none⟩), .int .i64 n, .int .i64 k] w fun e w' => ∃ v, e = .returned v ∧ Chained w' v [1] ∧ Below w.heap.size w w' := by
  have HP := Lib.hid (wfault b row bs 1 w (by decide) hW)
  clear hW
  by_cases hw : Width k
  · by_cases h0 : 0 ≤ n
    · have hn : IntKind.u64.wrap n = n := u64_nonneg h0 (by omega)
      unfold Fits at hf
      have hw' := hw
      rcases hw' with rfl | rfl | rfl | rfl
      · have hq : (n / 256 != 0) = true := by simp only [bne_iff_ne, ne_eq]; omega
        have hd : decide (n < 0) = false := by simp only [decide_eq_false_iff_not]; omega
        clear hf h1
        go_enter Tryz.func65, Tryz.ntmps65
        go_wp2_with (first
          | (go_at_call 81; refine (isWidth_yes _ _ hw).mono ?_; rintro e w' ⟨rfl, rfl⟩)
          | (go_at_call 82; refine HP.out.mono ?_; rintro e w' ⟨v, rfl, hP⟩))
        go_ret
        exact ⟨v, rfl, hP⟩
      · have hq : (n / 65536 != 0) = true := by simp only [bne_iff_ne, ne_eq]; omega
        have hd : decide (n < 0) = false := by simp only [decide_eq_false_iff_not]; omega
        clear hf h1
        go_enter Tryz.func65, Tryz.ntmps65
        go_wp2_with (first
          | (go_at_call 81; refine (isWidth_yes _ _ hw).mono ?_; rintro e w' ⟨rfl, rfl⟩)
          | (go_at_call 82; refine HP.out.mono ?_; rintro e w' ⟨v, rfl, hP⟩))
        go_ret
        exact ⟨v, rfl, hP⟩
      · have hq : (n / 4294967296 != 0) = true := by simp only [bne_iff_ne, ne_eq]; omega
        have hd : decide (n < 0) = false := by simp only [decide_eq_false_iff_not]; omega
        clear hf h1
        go_enter Tryz.func65, Tryz.ntmps65
        go_wp2_with (first
          | (go_at_call 81; refine (isWidth_yes _ _ hw).mono ?_; rintro e w' ⟨rfl, rfl⟩)
          | (go_at_call 82; refine HP.out.mono ?_; rintro e w' ⟨v, rfl, hP⟩))
        go_ret
        exact ⟨v, rfl, hP⟩
      · omega
    · have hn : n < 0 := by omega
      have hd : decide (n < 0) = true := by simp only [decide_eq_true_eq]; omega
      clear hf h0 h1
      go_enter Tryz.func65, Tryz.ntmps65
      go_wp2_with (first
        | (go_at_call 81; refine (isWidth_yes _ _ hw).mono ?_; rintro e w' ⟨rfl, rfl⟩)
        | (go_at_call 82; refine HP.out.mono ?_; rintro e w' ⟨v, rfl, hP⟩))
      go_ret
      exact ⟨v, rfl, hP⟩
  · have k1 : k ≠ 1 := fun h => hw (.inl h)
    have k2 : k ≠ 2 := fun h => hw (.inr (.inl h))
    have k4 : k ≠ 4 := fun h => hw (.inr (.inr (.inl h)))
    have k8 : k ≠ 8 := fun h => hw (.inr (.inr (.inr h)))
    have HW := Lib.hid (isWidth_no k w k1 k2 k4 k8)
    clear hf hw h1 k1 k2 k4 k8
    go_enter Tryz.func65, Tryz.ntmps65
    go_wp2_with (first
      | (go_at_call 81; refine HW.out.mono ?_; rintro e w' ⟨rfl, rfl⟩)
      | (go_at_call 82; refine HP.out.mono ?_; rintro e w' ⟨v, rfl, hP⟩))
    go_ret
    exact ⟨v, rfl, hP⟩
end Go.Proofs.YtkcbmkedhipgeaaGreatDoor

namespace Go.Proofs.YtkcbmkedhipgeaaGreatDoor
open Go.RowKit Go.Extern.Stop Go.Stop Go.Extern Go.PlainAid

theorem Wrt.below {w w' : World} (hb : Below w.heap.size w w') {b : Nat} {row : Option Nat} {bs : List Int} (h : Wrt w b row bs) : Wrt w' b row bs := by
  obtain ⟨s, hs, hf, ho, hr⟩ := h
  have hl := cell_lt hs
  exact ⟨s, by rw [hb.cell (p := ⟨b, 0, none⟩) hl]; exact hs, by rw [hb.frozen (p := ⟨b, 0, none⟩) hl]; exact hf, ownsRow_below hb ho, hr⟩

theorem Wrt.lt {w : World} {b : Nat} {row : Option Nat} {bs : List Int} (h : Wrt w b row bs) : b < w.heap.size := by
  obtain ⟨s, hs, _⟩ := h; exact cell_lt hs

theorem Wrt.row_lt {w : World} {b g : Nat} {row : Option Nat} {bs : List Int} (h : Wrt w b row bs) (hg : row = some g) : b < g ∧ g < w.heap.size := by
  obtain ⟨s, hs, hf, ho, hr⟩ := h
  have := ho.lt g (hr.trans hg); omega

/-- Below block b nothing has turned, if the row lies behind b. -/
theorem Fr.below {w w' : World} {b : Nat} {row : Option Nat} (h : Fr b row w w') (hb : b ≤ w.heap.size) (hr : ∀ g, row = some g → b < g) : Below b w w' :=
  ⟨h.os, h.tape, h.output, h.size, fun k hk => h.block k (by omega) (by omega) (fun e => by have := hr k e.symm; omega)⟩

theorem newWriter (w : World) :
    Calls Tryz.prog 63 #[] w fun e w' => e = .returned (.pointer (some ⟨w.heap.size, 0, none⟩)) ∧ Wrt w' w.heap.size none [] ∧ Below w.heap.size w w' ∧ w.heap.size < w'.heap.size := by
  go_enter Tryz.func63, Tryz.ntmps63
  go_wp2
  go_ret
  exact ⟨rfl, ⟨.slice none 0 0, by simp, by simp, World.ownsRow_nil _ _ _ _, rfl⟩, by go_grown, by simp⟩

/-- Bytes: all that is written. -/
theorem bytes_any (b : Nat) (row : Option Nat) (bs : List Int) (w : World) (hW : Wrt w b row bs) :
    Calls Tryz.prog 68 #[.pointer (some ⟨b, 0, none⟩)] w fun e w' => e = .returned (.string (strOfNums bs)) ∧ w = w' := by
  obtain ⟨s, hs, hf, ho, hr⟩ := hW
  rcases owned_form ho with ⟨rfl, h0, _⟩ | ⟨g, cap, rfl, hcell⟩
  · have hcv := run_convert_bytes_nil (P := Tryz.prog) w 140 5 Tryz.underlying140 Tryz.underlying5 0 0 9 Tryz.underlying9
    have hbs : bs = [] := by simpa using h0
    subst hbs
    clear ho hr hf h0
    go_enter Tryz.func68, Tryz.ntmps68
    go_wp2
    go_ret
    exact ⟨rfl, rfl⟩
  · have hcv := run_convert_bytes_arg (P := Tryz.prog) w 140 5 Tryz.underlying140 Tryz.underlying5 g 0 bs.length cap bs rfl (fun i hi => by
      rw [Nat.zero_add]
      exact hcell i _ (by rw [List.getElem?_map, List.getElem?_eq_getElem hi]; simp [List.getElem?_eq_getElem hi])) 9 Tryz.underlying9
    clear ho hr hf hcell
    go_enter Tryz.func68, Tryz.ntmps68
    go_wp2
    go_ret
    exact ⟨rfl, rfl⟩
end Go.Proofs.YtkcbmkedhipgeaaGreatDoor

namespace Go.Proofs.YtkcbmkedhipgeaaGreatDoor
open Go.RowKit Go.Extern.Stop Go.Stop Go.Extern Go.PlainAid Go.Lib

/-- A text's bytes, as numbers. -/
def nums (s : ByteArray) : List Int := s.data.toList.map fun c => (c.toNat : Int)
theorem nums_length (s : ByteArray) : (nums s).length = s.size := by simp [nums]
theorem strCells_nums (s : ByteArray) : strCells s = (nums s).map (Value.int .u8) := by simp [strCells, nums, Function.comp_def]

/-- append of a text's bytes to a slice that owns something: where the new slice lies. -/
theorem run_append_text {P : Program} (w : World) (base : Nat) (t u ty e : TypeId) (i : TypeInfo) (ht : P.underlying t = some (.slice e)) (hu : P.underlying u = some .string) (hi : P.info? e = some i) (hz : i.zero = some (.int .u8 0))
    (hsize : i.size = 1) (hby : i.bytes = 1) (v : Value) (n : Nat) (xs : List Value) (hown : w.ownsRow base e 1 v n xs) (s : ByteArray) (hn : 0 < n)
    (h63 : n + s.size ≤ maxLen) (hbytes : n + s.size ≤ 140737488355328) (hbase : base ≤ w.heap.size) :
    ∃ g cap w', (Builtin.append_ #[t, u] ty #[v, .string s]).run P w = .ok (.slice (some ⟨g, 0, none⟩) (n + s.size) cap) w' ∧ w'.ownsRow base e 1 (.slice (some ⟨g, 0, none⟩) (n + s.size) cap) (n + s.size) (xs ++ strCells s) ∧ w.grownBy w' v.ownBlock ∧
      (v.ownBlock = some g ∨ g = w.heap.size) := by
  obtain ⟨v', w', hr, h2, h3, _⟩ := run_append_own_string (P := P) w base t u ty e i ht hu hi hz hsize hby v n xs hown s h63 hbytes hbase
  have hown' := hown
  obtain ⟨hxl, h⟩ := hown
  rcases h with ⟨_, h0⟩ | ⟨g, cap, cur, rfl, hbg, hg, hnc, hcm, hcs, htake⟩
  · omega
  · have hsmall : n + s.size ≤ 9223372036854775807 := by simp only [maxLen] at h63; omega
    by_cases hroom : n + s.size ≤ cap
    · have hr' := run_append_room_string (P := P) w t u ty e i ht hu hi hsize g n cap cur hg s hroom (by omega)
      rw [hr] at hr'
      injection hr' with e1 e2
      subst e1
      exact ⟨g, cap, w', hr, h2, h3, .inl rfl⟩
    · have holds : ∀ j u, xs[j]? = some u → w.cell? ((⟨g, 0, none⟩ : Addr).add j) = some u := hown'.cells (g := g) rfl
      have hr' := run_append_grow_string (P := P) w t u ty e i (.int .u8 0) ht hu hi hz ⟨g, 0, none⟩ n cap xs (by rw [hsize]; exact hxl) holds s (by omega) (by omega) (by rw [hby]; exact growslice_fits (by omega) (by omega))
      rw [hr] at hr'
      injection hr' with e1 e2
      subst e1
      exact ⟨_, _, w', hr, h2, h3, .inr rfl⟩

theorem wpList_append_text {P : Program} (w : World) {ops : Array Oper} {rest : List Oper} {o : Oper} {a : Act} {Q : Exit → Act → World → Prop} (hgd : o.guard = none) (sl x : Operand) (t u : TypeId)
    (ho : o.op = .call { callee := .builtin .append, args := #[sl, x], argTypes := #[t, u] })
    (base : Nat) (e : TypeId) (i : TypeInfo) (ht : P.underlying t = some (.slice e)) (hu : P.underlying u = some .string) (hi : P.info? e = some i) (hz : i.zero = some (.int .u8 0))
    (hsize : i.size = 1) (hby : i.bytes = 1) (v : Value) (n : Nat) (xs : List Value) (hs : a.eval sl = v) (hown : w.ownsRow base e 1 v n xs) (s : ByteArray) (hx : a.eval x = .string s) (hn : 0 < n)
    (h63 : n + s.size ≤ maxLen) (hbytes : n + s.size ≤ 140737488355328) (hbase : base ≤ w.heap.size)
    (h : ∀ g cap w', w'.ownsRow base e 1 (.slice (some ⟨g, 0, none⟩) (n + s.size) cap) (n + s.size) (xs ++ strCells s) → w.grownBy w' v.ownBlock → (v.ownBlock = some g ∨ g = w.heap.size) → wpList P ops Q rest (a.put o.dst (.slice (some ⟨g, 0, none⟩) (n + s.size) cap)) w') : wpList P ops Q (o :: rest) a w := by
  refine wpList_plain hgd fun K hK => ?_
  obtain ⟨g, cap, w', hr, h2, h3, h4⟩ := run_append_text (P := P) w base t u o.type e i ht hu hi hz hsize hby v n xs hown s hn h63 hbytes hbase
  unfold Oper.wp execOp
  simp only [ho, resolve, invoke, builtin, Sem.run_bind, Sem.run_pure, Result.andThen_ok, List.map_toArray, List.map_cons, List.map_nil, hs, hx, hr]
  exact hK _ _ (h g cap w' h2 h3 h4)

theorem Fr.grown {b : Nat} {row row1 srow : Option Nat} {w w1 w2 : World} {v : Value} (hf : Fr b row w w1) (hr : RowOk row row1 w) (hg : w1.grownBy w2 srow) (hs : srow = row1) : Fr b row w (w2.setCell ⟨b, 0, none⟩ v) := by
  subst hs
  have hz := hf.size
  have hz2 := hg.size
  refine ⟨hg.os.trans hf.os, hg.tape.trans hf.tape, hg.output.trans hf.output, by simp [World.setCell]; omega, fun k hk hkb hkr => ?_⟩
  rw [Below.heap_setCell _ _ _ _ (by simpa using hkb), hg.block k (by omega) ?_]
  · exact hf.block k hk hkb hkr
  · rcases hr with h | ⟨g, h, hge⟩
    · rw [h]; exact hkr
    · rw [h]; intro e; injection e with e; omega

set_option maxRecDepth 100000 in
theorem text_ok (b : Nat) (row : Option Nat) (bs : List Int) (s : ByteArray) (w : World) (hs : s.size ≤ 1024) (hW : Wrt w b row bs) (hl : bs.length ≤ 90000000) :
    Calls Tryz.prog 66 #[.pointer (some ⟨b, 0, none⟩), .string s] w fun e w' => e = .returned .nilIface ∧
      ∃ row', Wrt w' b row' (bs ++ leb s.size 2 ++ nums s) ∧ RowOk row row' w ∧ Fr b row w w' := by
  obtain ⟨i0, hi0, hz0, hz1, hz2⟩ := info_parts infoByte
  have HP := Lib.hid (put_any b row bs s.size 2 w (.inr (.inl rfl)) (by omega) (by omega) hW (by omega))
  have hsI : (s.size : Int) ≤ 1024 := by omega
  clear hW
  go_enter Tryz.func66, Tryz.ntmps66
  go_wp2_with fail
  go_at_call 83
  refine HP.out.mono ?_
  rintro e w1 ⟨rfl, row1, ⟨sv, hsv, hsf, hown, hrow⟩, hr1, hf1⟩
  have hl1 : (bs ++ leb (s.size : Int) (Int.toNat 2)).length = bs.length + 2 := by simp [leb]
  have hbl := cell_lt hsv
  have hne : sv.ownBlock ≠ some b := fun h => by have := (hown.lt b h).1; omega
  have HR1 := Lib.hid hr1
  have HF1 := Lib.hid hf1
  have HRow := Lib.hid hrow
  have HL := Lib.hid hl1
  rw [hl1] at hown
  clear hr1 hf1 hrow hl1
  go_wp2_with (at_builtin; refine wpList_append_text _ rfl (.tmp 18) (.tmp 19) 140 9 rfl (b + 1) 5 i0 Tryz.underlying140 Tryz.underlying9 hi0 hz0 hz1 hz2 sv _ _ rfl hown s rfl (by omega) (by unfold maxLen; omega) (by omega) (by omega) ?_; intro g cap w2 hown2 hgrow hat; (have hf2 : w2.frozen? ⟨b, 0, none⟩ = false := by rw [hgrow.frozen_far _ hbl (Ne.symm hne)]; exact hsf); (have hc2 : w2.cell? ⟨b, 0, none⟩ = some sv := by rw [hgrow.cell_far _ hbl (Ne.symm hne)]; exact hsv))
  go_ret
  refine ⟨rfl, some g, Wrt.stored hc2 hf2 ?_ ?_, ?_, HF1.out.grown HR1.out hgrow HRow.out⟩
  · have h2 : (bs ++ leb (s.size : Int) 2).length = bs.length + 2 := HL.out
    rw [List.length_append, nums_length, h2]
  · rw [List.map_append, ← strCells_nums]; exact hown2
  · rcases hat with h | h
    · have := HRow.out; rw [h] at this; rw [this]; exact HR1.out
    · exact .inr ⟨g, rfl, by have := HF1.out.size; omega⟩

theorem text_bad (b : Nat) (row : Option Nat) (bs : List Int) (s : ByteArray) (w : World) (hs : 1024 < s.size) (hW : Wrt w b row bs) :
    Calls Tryz.prog 66 #[.pointer (some ⟨b, 0, none⟩), .string s] w fun e w' => ∃ v, e = .returned v ∧ Chained w' v [11] ∧ Below w.heap.size w w' := by
  have hsI : (1024 : Int) < (s.size : Int) := by omega
  have HP := Lib.hid (wfault b row bs 11 w (by decide) hW)
  clear hW
  go_enter Tryz.func66, Tryz.ntmps66
  go_wp2_with (go_at_call 82; refine HP.out.mono ?_; rintro e w' ⟨v, rfl, hP⟩)
  go_ret
  exact ⟨v, rfl, hP⟩
end Go.Proofs.YtkcbmkedhipgeaaGreatDoor
