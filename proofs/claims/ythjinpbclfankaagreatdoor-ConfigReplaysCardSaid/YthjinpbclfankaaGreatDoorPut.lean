/-
  The writer of package field, by contracts.
-/
import Derived.Test.YthjinpbclfankaaGreatDoorChain
import Derived.Deep.AppendLies
import Derived.Deep.RegionHeld3
import Derived.Deep.RegionLaw
import Derived.PlainAid
namespace Go.Proofs.YthjinpbclfankaaGreatDoor
open Go.RowKit Go.Extern.Stop Go.Stop Go.Extern

theorem isWidth_yes (k : Int) (w : World) (h : k = 1 ∨ k = 2 ∨ k = 4 ∨ k = 8) :
    Calls Tryz.prog 33 #[.int .i64 k] w fun e w' => e = .returned (.bool true) ∧ w = w' := by
  rcases h with rfl | rfl | rfl | rfl
  all_goals
    go_enter Tryz.func33, Tryz.ntmps33
    go_wp2
    go_ret
    exact ⟨rfl, rfl⟩
theorem isWidth_no (k : Int) (w : World) (h1 : k ≠ 1) (h2 : k ≠ 2) (h4 : k ≠ 4) (h8 : k ≠ 8) :
    Calls Tryz.prog 33 #[.int .i64 k] w fun e w' => e = .returned (.bool false) ∧ w = w' := by
  go_enter Tryz.func33, Tryz.ntmps33
  go_wp2
  go_ret
  exact ⟨rfl, rfl⟩

set_option maxRecDepth 100000 in
theorem split1 (n : Int) (w : World) :
    Calls Tryz.prog 52 #[.int .u64 n, .int .i64 1] w fun e w' => e = .returned (.agg #[.int .u8 (n % 256), .int .u8 0, .int .u8 0, .int .u8 0, .int .u8 0, .int .u8 0, .int .u8 0, .int .u8 0]) ∧ Below w.heap.size w w' := by
  go_enter Tryz.func52, Tryz.ntmps52
  go_wp2
  go_returns
  exact ⟨rfl, by go_grown⟩
set_option maxRecDepth 100000 in
theorem split2 (n : Int) (w : World) :
    Calls Tryz.prog 52 #[.int .u64 n, .int .i64 2] w fun e w' => e = .returned (.agg #[.int .u8 (n % 256), .int .u8 (n / 256 % 256), .int .u8 0, .int .u8 0, .int .u8 0, .int .u8 0, .int .u8 0, .int .u8 0]) ∧ Below w.heap.size w w' := by
  go_enter Tryz.func52, Tryz.ntmps52
  go_wp2
  go_returns
  exact ⟨rfl, by go_grown⟩
set_option maxRecDepth 100000 in
theorem split4 (n : Int) (w : World) :
    Calls Tryz.prog 52 #[.int .u64 n, .int .i64 4] w fun e w' => e = .returned (.agg #[.int .u8 (n % 256), .int .u8 (n / 256 % 256), .int .u8 (n / 65536 % 256), .int .u8 (n / 16777216 % 256), .int .u8 0, .int .u8 0, .int .u8 0, .int .u8 0]) ∧ Below w.heap.size w w' := by
  go_enter Tryz.func52, Tryz.ntmps52
  go_wp2
  go_returns
  exact ⟨rfl, by go_grown⟩
set_option maxRecDepth 100000 in
theorem split8 (n : Int) (w : World) :
    Calls Tryz.prog 52 #[.int .u64 n, .int .i64 8] w fun e w' => e = .returned (.agg #[.int .u8 (n % 256), .int .u8 (n / 256 % 256), .int .u8 (n / 65536 % 256), .int .u8 (n / 16777216 % 256), .int .u8 (n / 4294967296 % 256), .int .u8 (n / 1099511627776 % 256), .int .u8 (n / 281474976710656 % 256), .int .u8 (n / 72057594037927936 % 256)]) ∧ Below w.heap.size w w' := by
  go_enter Tryz.func52, Tryz.ntmps52
  go_wp2
  go_returns
  exact ⟨rfl, by go_grown⟩

theorem infoByte : (Tryz.prog.info? 5).map (fun i => (i.zero, i.size, i.bytes)) = some (some (.int .u8 0), 1, 1) := by kernel_rfl

/-- A writer in block b: its bytes bs, in a row of its own behind it (row: that row's block). -/
def Wrt (w : World) (b : Nat) (row : Option Nat) (bs : List Int) : Prop :=
  ∃ s, w.cell? ⟨b, 0, none⟩ = some s ∧ w.frozen? ⟨b, 0, none⟩ = false ∧ w.ownsRow (b + 1) 5 1 s bs.length (bs.map (Value.int .u8)) ∧ s.ownBlock = row

/-- From w to w' only block b, the block 'row' and new ones have turned. -/
structure Fr (b : Nat) (row : Option Nat) (w w' : World) : Prop where
  os : w'.os = w.os
  tape : w'.tape = w.tape
  output : w'.output = w.output
  size : w.heap.size ≤ w'.heap.size
  block : ∀ k, k < w.heap.size → k ≠ b → some k ≠ row → w'.heap[k]? = w.heap[k]?

theorem nums_oneCell (l : List Int) (κ : IntKind) : ∀ u ∈ l.map (Value.int κ), u.oneCell' = true := fun u hu => by
  obtain ⟨x, _, rfl⟩ := List.mem_map.1 hu; rfl
theorem take_news (l : List Int) (k : Nat) (κ : IntKind) (j : Nat) (u : Value) (h : ((l.take k).map (Value.int κ))[j]? = some u) : (l.map (Value.int κ))[j]? = some u := by
  rw [List.getElem?_map, List.getElem?_take] at h
  split at h
  · rw [List.getElem?_map]; exact h
  · simp at h

/-- The row is the old one, or a new block. -/
def RowOk (row row' : Option Nat) (w : World) : Prop := row' = row ∨ ∃ g, row' = some g ∧ w.heap.size ≤ g

theorem Wrt.stored {w2 : World} {b g n cap : Nat} {s : Value} {cs : List Int} (hc : w2.cell? ⟨b, 0, none⟩ = some s) (hf : w2.frozen? ⟨b, 0, none⟩ = false) (hn : n = cs.length)
    (hown : w2.ownsRow (b + 1) 5 1 (.slice (some ⟨g, 0, none⟩) n cap) n (cs.map (Value.int .u8))) :
    Wrt (w2.setCell ⟨b, 0, none⟩ (.slice (some ⟨g, 0, none⟩) n cap)) b (some g) cs := by
  subst hn
  exact ⟨_, World.cell?_setCell_same _ _ _ hc, by rw [World.frozen?_setCell]; exact hf, ownsRow_setCell_below hown (Nat.lt_succ_self b) _, rfl⟩

theorem Fr.put {b : Nat} {row srow : Option Nat} {w w1 w2 : World} {o : Obj} {v : Value} (hb : Below w.heap.size w w1) (hg : (w1.alloc o).drew.grownBy w2 srow) (hr : srow = row) : Fr b row w (w2.setCell ⟨b, 0, none⟩ v) := by
  subst hr
  have hz := hb.size
  have hz2 : w1.heap.size + 1 ≤ w2.heap.size := by have := hg.size; simpa using this
  refine ⟨hg.os.trans hb.os, hg.tape.trans hb.tape, hg.output.trans hb.output, by simp [World.setCell]; omega, fun k hk hkb hkr => ?_⟩
  rw [Below.heap_setCell _ _ _ _ (by simpa using hkb), hg.block k (by simp; omega) hkr]
  exact (Below.heap_alloc w1 o k (by omega)).trans (hb.block k hk)

set_option maxRecDepth 100000 in
set_option maxHeartbeats 3200000 in
theorem put_of (b : Nat) (row : Option Nat) (bs : List Int) (n : Int) (k : Nat) (p0 p1 p2 p3 p4 p5 p6 p7 : Int) (w : World) (hk0 : 0 < k) (hk8 : k ≤ 8) (hn : IntKind.u64.wrap n = n)
    (hsp : ∀ w, Calls Tryz.prog 52 #[.int .u64 n, .int .i64 k] w fun e w' => e = .returned (.agg #[.int .u8 p0, .int .u8 p1, .int .u8 p2, .int .u8 p3, .int .u8 p4, .int .u8 p5, .int .u8 p6, .int .u8 p7]) ∧ Below w.heap.size w w')
    (hW : Wrt w b row bs) (hl : bs.length ≤ 100000000) :
    Calls Tryz.prog 40 #[.pointer (some ⟨b, 0, none⟩), .int .i64 n, .int .i64 k] w fun e w' => e = .returned (.tuple #[]) ∧
      ∃ row', Wrt w' b row' (bs ++ [p0, p1, p2, p3, p4, p5, p6, p7].take k) ∧ RowOk row row' w ∧ Fr b row w w' := by
  obtain ⟨s, hs, hsf, hown, hrow⟩ := hW
  obtain ⟨i0, hi0, hz0, hz1, hz2⟩ := info_parts infoByte
  have hbl := cell_lt hs
  have HS := Lib.hid hs
  have HF := Lib.hid hsf
  have HO := Lib.hid hown
  have HR := Lib.hid hrow
  clear hs hsf hown hrow
  go_enter Tryz.func40, Tryz.ntmps40
  go_wp2_with fail
  go_at_call 52
  refine (hsp w).mono ?_
  rintro e w1 ⟨rfl, hb1⟩
  have hz := hb1.size
  have hs1 : w1.cell? ⟨b, 0, none⟩ = some s := by rw [hb1.cell (p := ⟨b, 0, none⟩) hbl]; exact HS.out
  have hown1 := ownsRow_below hb1 HO.out
  have HB := Lib.hid hb1
  clear hb1 hsp
  go_wp2_with fail
  have hf1 : w1.frozen? ⟨b, 0, none⟩ = false := by rw [HB.out.frozen (p := ⟨b, 0, none⟩) hbl]; exact HF.out
  have hne : s.ownBlock ≠ some b := fun h => by have := (HO.out.lt b h).1; omega
  have hkI0 : (0 : Int) ≤ (k : Int) := Int.natCast_nonneg _
  have hkI8 : (k : Int) ≤ 8 := by omega
  have hbl1 : b < w1.heap.size := by omega
  have hnews : ∀ j u, (([p0, p1, p2, p3, p4, p5, p6, p7].take k).map (Value.int .u8))[j]? = some u → ((w1.alloc (.cells #[.int .u8 p0, .int .u8 p1, .int .u8 p2, .int .u8 p3, .int .u8 p4, .int .u8 p5, .int .u8 p6, .int .u8 p7] 120)).drew).cell? ((⟨w1.heap.size, 0, none⟩ : Addr).add j) = some u := fun j u hu =>
    World.news_of_block (cs := #[.int .u8 p0, .int .u8 p1, .int .u8 p2, .int .u8 p3, .int .u8 p4, .int .u8 p5, .int .u8 p6, .int .u8 p7]) (t := 120) (fr := (0, 0)) (heap_alloc_new w1 _) j u (take_news _ _ _ _ _ hu)
  have HF1 := Lib.hid (show ((w1.alloc (.cells #[.int .u8 p0, .int .u8 p1, .int .u8 p2, .int .u8 p3, .int .u8 p4, .int .u8 p5, .int .u8 p6, .int .u8 p7] 120)).drew).frozen? ⟨b, 0, none⟩ = false from (World.frozen?_alloc_old w1 _ ⟨b, 0, none⟩ (Nat.ne_of_lt hbl1)).trans hf1)
  have HC1 := Lib.hid (show ((w1.alloc (.cells #[.int .u8 p0, .int .u8 p1, .int .u8 p2, .int .u8 p3, .int .u8 p4, .int .u8 p5, .int .u8 p6, .int .u8 p7] 120)).drew).cell? ⟨b, 0, none⟩ = some s from (World.cell?_alloc_lt w1 _ ⟨b, 0, none⟩ hbl1).trans hs1)
  have HN := Lib.hid hnews
  clear hnews
  go_region_law
    ((refine step_append_lies _ (by rfl) _ _ _ (by rfl) (b + 1) 5 i0 _ 1 1 Tryz.underlying78 hi0 hz0 hz1 hz2 rfl (by omega) s bs.length (bs.map (Value.int .u8)) (by rfl) ((hown1.alloc _).drew)
        ⟨w1.heap.size, 0, none⟩ k 8 (([p0, p1, p2, p3, p4, p5, p6, p7].take k).map (Value.int .u8)) (by rfl) (by simp; omega) HN.out (nums_oneCell _ _)
        (by omega) (by unfold maxLen; omega) (by omega) (by simp; omega) (w1.heap.size + 1) (by simp) ?_; intro g cap w2 hown2 hgrow hat hlt; (have hf2 : w2.frozen? ⟨b, 0, none⟩ = false := by rw [hgrow.frozen_far _ (by simp; omega) (Ne.symm hne)]; exact HF1.out); (have hc2 : w2.cell? ⟨b, 0, none⟩ = some s := by rw [hgrow.cell_far _ (by simp; omega) (Ne.symm hne)]; exact HC1.out)))
  go_wp2
  go_end0
  refine ⟨rfl, some g, Wrt.stored hc2 hf2 (by simp; omega) (by simpa using hown2), ?_, Fr.put HB.out hgrow (HR.out ▸ rfl)⟩
  rcases hat with h | h
  · exact .inl (by rw [← h]; exact HR.out)
  · exact .inr ⟨g, rfl, by omega⟩
end Go.Proofs.YthjinpbclfankaaGreatDoor
