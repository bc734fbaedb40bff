/-
  The document's writer (weirkeepref01), by contracts: its Text, its Bytes.

  The document's reader (weirkeepref01), by contracts: its Num.
-/
import Derived.Test.YtmmpknfkncgjpaaGreatDoorM12
namespace Go.Proofs.YtmmpknfkncgjpaaGreatDoor
open Go.RowKit Go.Extern.Stop Go.Stop Go.Extern Go.PlainAid Go.Lib

theorem refbytes (b : Nat) (row : Option Nat) (bs : List Int) (w : World) (hW : Wrt w b row bs) :
    Calls Tryz.prog 49 #[.pointer (some ⟨b, 0, none⟩)] w fun e w' => e = .returned (.string (strOfNums bs)) ∧ w = w' := by
  obtain ⟨s, hs, hf, ho, hr⟩ := hW
  rcases owned_form ho with ⟨rfl, h0, _⟩ | ⟨g, cap, rfl, hcell⟩
  · have hcv := run_convert_bytes_nil (P := Tryz.prog) w 73 5 Tryz.underlying73 Tryz.underlying5 0 0 9 Tryz.underlying9
    have hbs : bs = [] := by simpa using h0
    subst hbs
    clear ho hr hf h0
    go_enter Tryz.func49, Tryz.ntmps49
    go_wp2
    go_ret
    exact ⟨rfl, rfl⟩
  · have hcv := run_convert_bytes_arg (P := Tryz.prog) w 73 5 Tryz.underlying73 Tryz.underlying5 g 0 bs.length cap bs rfl (fun i hi => by
      rw [Nat.zero_add]
      exact hcell i _ (by rw [List.getElem?_map, List.getElem?_eq_getElem hi]; simp [List.getElem?_eq_getElem hi])) 9 Tryz.underlying9
    clear ho hr hf hcell
    go_enter Tryz.func49, Tryz.ntmps49
    go_wp2
    go_ret
    exact ⟨rfl, rfl⟩

set_option maxRecDepth 100000 in
set_option maxHeartbeats 1000000 in
theorem reftext_ok (b : Nat) (row : Option Nat) (bs : List Int) (s : ByteArray) (w : World) (hs : s.size ≤ 1024) (hW : Wrt w b row bs) (hl : bs.length ≤ 80000000) :
    Calls Tryz.prog 48 #[.pointer (some ⟨b, 0, none⟩), .string s] w fun e w' => e = .returned (.agg #[.slice none 0 0, .int .i64 0]) ∧
      ∃ row', Wrt w' b row' (bs ++ leb s.size 2 ++ nums s) ∧ RowOk row row' w ∧ Fr b row w w' := by
  obtain ⟨i0, hi0, hz0, hz1, hz2⟩ := info_parts infoByte
  have hsI : (s.size : Int) ≤ 1024 := by omega
  have hbR := hW.lt
  have HR0 := Lib.hid (show ∀ g, row = some g → g < w.heap.size from fun g hg => (hW.row_lt hg).2)
  have hres : Res (w.alloc (.cells #[.slice none 0 0, .int .i64 0] 102)) w.heap.size := ⟨by simp, by simp, by simp, by simp⟩
  have hb0 : Below w.heap.size w (w.alloc (.cells #[.slice none 0 0, .int .i64 0] 102)) := (Below.refl _ _).alloc (Nat.le_refl _) _
  have hz00 : w.heap.size < (w.alloc (.cells #[.slice none 0 0, .int .i64 0] 102)).heap.size := by simp
  have HS := Lib.hid hres
  have HW0 := Lib.hid (hW.below hb0)
  have HB0 := Lib.hid hb0
  have HZ0 := Lib.hid hz00
  clear hW hres hb0 hz00
  go_enter Tryz.func48, Tryz.ntmps48
  go_wp2_with fail
  generalize w.alloc (.cells #[.slice none 0 0, .int .i64 0] 102) = w0 at HS HB0 HW0 HZ0 ⊢
  go_at_call 47
  refine (refnum_ok b row bs s.size 2 w0 (by unfold Fits; omega) HW0.out (by omega)).mono ?_
  rintro e w1 ⟨rfl, row1, ⟨sv, hsv, hsf, hown, hrow⟩, hr1, hf1⟩
  have hl1 : (bs ++ leb (s.size : Int) (Int.toNat 2)).length = bs.length + 2 := by simp [leb]
  have hbl := cell_lt hsv
  have hne : sv.ownBlock ≠ some b := fun h => by have := (hown.lt b h).1; omega
  have HR1 := Lib.hid hr1
  have HF1 := Lib.hid hf1
  have HRow := Lib.hid hrow
  have HL := Lib.hid hl1
  rw [hl1] at hown
  clear hr1 hf1 hrow hl1
  go_wp2_with (at_builtin; refine wpList_append_text _ rfl (.tmp 22) (.tmp 23) 73 9 rfl (b + 1) 5 i0 Tryz.underlying73 Tryz.underlying9 hi0 hz0 hz1 hz2 sv _ _ rfl hown s rfl (by omega) (by unfold maxLen; omega) (by omega) (by omega) ?_; intro g cap w2 hown2 hgrow hat; (have hf2 : w2.frozen? ⟨b, 0, none⟩ = false := by rw [hgrow.frozen_far _ hbl (Ne.symm hne)]; exact hsf); (have hc2 : w2.cell? ⟨b, 0, none⟩ = some sv := by rw [hgrow.cell_far _ hbl (Ne.symm hne)]; exact hsv); (have hfr2 := HF1.out.grown (v := .slice (some ⟨g, 0, none⟩) (bs.length + 2 + s.size) cap) HR1.out hgrow HRow.out); (have hRb : w.heap.size ≠ b := by omega); (have hRr : some w.heap.size ≠ row := fun e => by have := HR0.out _ e.symm; omega); (obtain ⟨r0, r1, r2, r3⟩ := HS.out.fr hfr2 hRb hRr HZ0.out); have HFR := Lib.hid hfr2; have HGR := Lib.hid hgrow; have HO2 := Lib.hid hown2; clear hfr2 hgrow hown2 hown)
  have hgw : RowOk row (some g) w ∧ g ≠ w.heap.size := by
    have hz := HZ0.out
    have hz1 := HF1.out.size
    rcases hat with h | h
    · have hr1 : row1 = some g := HRow.out.symm.trans h
      rcases HR1.out with e | ⟨g', e, hg'⟩
      · have e' : row = some g := e.symm.trans hr1
        exact ⟨.inl e'.symm, by have := HR0.out g e'; omega⟩
      · rw [hr1] at e; injection e with e; subst e
        exact ⟨.inr ⟨g, rfl, by omega⟩, by omega⟩
    · exact ⟨.inr ⟨g, rfl, by omega⟩, by omega⟩
  have hWf : Wrt (w2.setCell ⟨b, 0, none⟩ (.slice (some ⟨g, 0, none⟩) (bs.length + 2 + s.size) cap)) b (some g) (bs ++ leb (s.size : Int) 2 ++ nums s) := by
    refine Wrt.stored hc2 hf2 ?_ ?_
    · have h2 : (bs ++ leb (s.size : Int) 2).length = bs.length + 2 := HL.out
      rw [List.length_append, nums_length, h2]
    · rw [List.map_append, ← strCells_nums]; exact HO2.out
  have hFr : Fr b row w (w2.setCell ⟨b, 0, none⟩ (.slice (some ⟨g, 0, none⟩) (bs.length + 2 + s.size) cap)) := Fr.after HB0.out HFR.out
  generalize w2.setCell ⟨b, 0, none⟩ (.slice (some ⟨g, 0, none⟩) (bs.length + 2 + s.size) cap) = w3 at r0 r1 r2 r3 hWf hFr ⊢
  obtain ⟨c0, c1⟩ := res_cells r0 r1 (.slice none 0 0) (.int .i64 0)
  refine bodyPost_ret (v := .agg #[.slice none 0 0, .int .i64 0]) (by simp [results, Tryz.results48, go_sem, c0, c1]) rfl ⟨rfl, some g, ?_, hgw.1, hFr.then_ (((Below.refl w.heap.size w3).setCell (p := ⟨w.heap.size, 0, none⟩) (Nat.le_refl _) _).setCell (p := ⟨w.heap.size, 1, none⟩) (Nat.le_refl _) _)⟩
  have hq : some g ≠ some w.heap.size := fun e => by injection e with e; exact hgw.2 e
  exact (hWf.setOther (p := ⟨w.heap.size, 0, none⟩) _ hRb hq).setOther (p := ⟨w.heap.size, 1, none⟩) _ hRb hq

set_option maxRecDepth 100000 in
theorem reftext_bad (b : Nat) (row : Option Nat) (bs : List Int) (s : ByteArray) (w : World) (hs : 1024 < s.size) (hW : Wrt w b row bs) :
    Calls Tryz.prog 48 #[.pointer (some ⟨b, 0, none⟩), .string s] w fun e w' => ∃ A at_, e = .returned (.agg #[.slice A 1 1, .int .i64 at_]) ∧ RF w' A 1 1 [11] ∧ Below w.heap.size w w' := by
  have hsI : (1024 : Int) < (s.size : Int) := by omega
  obtain ⟨sv, hsv, hsf, hown, hrow⟩ := hW
  have hbl := cell_lt hsv
  have hsl : ∃ A c, sv = .slice A bs.length c := by
    rcases owned_form hown with ⟨rfl, _, h⟩ | ⟨g, cap, rfl, _⟩
    · exact ⟨none, 0, by rw [h]⟩
    · exact ⟨_, _, rfl⟩
  obtain ⟨sA, sc, rfl⟩ := hsl
  have hres : Res (w.alloc (.cells #[.slice none 0 0, .int .i64 0] 102)) w.heap.size := ⟨by simp, by simp, by simp, by simp⟩
  have hb0 : Below w.heap.size w (w.alloc (.cells #[.slice none 0 0, .int .i64 0] 102)) := (Below.refl _ _).alloc (Nat.le_refl _) _
  have hz00 : w.heap.size < (w.alloc (.cells #[.slice none 0 0, .int .i64 0] 102)).heap.size := by simp
  have hsw : (w.alloc (.cells #[.slice none 0 0, .int .i64 0] 102)).cell? ⟨b, 0, none⟩ = some (.slice sA bs.length sc) := by rw [World.cell?_alloc_lt _ _ ⟨b, 0, none⟩ hbl]; exact hsv
  have HS := Lib.hid hres
  have HB0 := Lib.hid hb0
  have HZ0 := Lib.hid hz00
  clear hres hb0 hz00 hown hrow hsf hsv
  go_enter Tryz.func48, Tryz.ntmps48
  go_wp2_with fail
  go_at_call 82
  refine (one_any 11 _ _).mono ?_
  rintro e w1 ⟨A, rfl, hA, hg, hb⟩
  obtain ⟨r0, r1, r2, r3⟩ := HS.out.below hb HZ0.out
  have hgR : ∀ g, A = some ⟨g, 0, none⟩ → w.heap.size ≠ g := fun g h => by have := hg g h; have := HZ0.out; omega
  have P1 := Lib.hid ((hA.setOther (p := ⟨w.heap.size, 0, none⟩) (.slice A 1 1) hgR).setOther (p := ⟨w.heap.size, 1, none⟩) (.int .i64 bs.length) hgR)
  have P2 := Lib.hid (HB0.out.trans (((hb.mono (Nat.le_of_lt HZ0.out)).setCell (p := ⟨w.heap.size, 0, none⟩) (Nat.le_refl _) (.slice A 1 1)).setCell (p := ⟨w.heap.size, 1, none⟩) (Nat.le_refl _) (.int .i64 bs.length)))
  have hcs := res_cells r0 r1 (.slice A 1 1) (.int .i64 bs.length)
  clear hA hg hb hgR
  go_wp2
  generalize (w1.setCell ⟨w.heap.size, 0, none⟩ (.slice A 1 1)).setCell ⟨w.heap.size, 1, none⟩ (.int .i64 bs.length) = wf at P1 P2 hcs ⊢
  obtain ⟨c0, c1⟩ := hcs
  exact bodyPost_ret (v := .agg #[.slice A 1 1, .int .i64 bs.length]) (by simp [results, Tryz.results48, go_sem, c0, c1]) rfl ⟨A, _, rfl, P1.out, P2.out⟩
end Go.Proofs.YtmmpknfkncgjpaaGreatDoor

namespace Go.Proofs.YtmmpknfkncgjpaaGreatDoor
open Go.RowKit Go.Extern.Stop Go.Stop Go.Extern Go.PlainAid Go.Lib

theorem bt_extract (s : ByteArray) (a i : Nat) (h : a + i < s.size) : bt (s.extract a s.size) i = bt s (a + i) := by
  have h1 : i < (s.extract a s.size).size := by simp; omega
  unfold bt
  rw [dif_pos h1, dif_pos h]
  simp [ByteArray.getElem_extract]

/-- The number that bytes i to k - 1 make. -/
def hv (s : ByteArray) (a k : Nat) : Nat → Nat → Int
  | 0, _ => 0
  | f + 1, i => if i < k then bt s (a + i) + 256 * hv s a k f (i + 1) else 0
theorem hv_fuel (s : ByteArray) (a k : Nat) : ∀ f i, k ≤ i → hv s a k f i = 0
  | 0, _, _ => rfl
  | f + 1, i, h => by simp only [hv]; rw [if_neg (by omega)]
theorem hv_enough (s : ByteArray) (a k : Nat) : ∀ f g i, k ≤ f + i → k ≤ g + i → hv s a k f i = hv s a k g i
  | 0, g, i, h, _ => by rw [hv_fuel s a k 0 i (by omega), hv_fuel s a k g i (by omega)]
  | f + 1, 0, i, _, h => by rw [hv_fuel s a k 0 i (by omega), hv_fuel s a k (f + 1) i (by omega)]
  | f + 1, g + 1, i, h, h' => by
    simp only [hv]
    split
    · rw [hv_enough s a k f g (i + 1) (by omega) (by omega)]
    · rfl
/-- From i on. -/
def hvf (s : ByteArray) (a k i : Nat) : Int := hv s a k k i
theorem hvf_end (s : ByteArray) (a k : Nat) : hvf s a k k = 0 := hv_fuel s a k k k (Nat.le_refl _)
theorem hvf_step (s : ByteArray) (a k i : Nat) (h : i < k) : hvf s a k i = hvf s a k (i + 1) * 256 + bt s (a + i) := by
  unfold hvf
  obtain ⟨f, rfl⟩ : ∃ f, k = f + 1 := ⟨k - 1, by omega⟩
  rw [show hv s a (f + 1) (f + 1) i = bt s (a + i) + 256 * hv s a (f + 1) f (i + 1) from by simp only [hv]; rw [if_pos h], hv_enough s a (f + 1) f (f + 1) (i + 1) (by omega) (by omega)]
  omega
theorem hvf_nonneg (s : ByteArray) (a k : Nat) : ∀ d i, k = i + d → 0 ≤ hvf s a k i
  | 0, i, h => by have : i = k := by omega
                  subst this; rw [hvf_end]; decide
  | d + 1, i, h => by
    rw [hvf_step s a k i (by omega)]
    have := hvf_nonneg s a k d (i + 1) (by omega)
    have := bt_nonneg s (a + i)
    omega
theorem lev_hvf (s : ByteArray) (a k : Nat) (hk : a + k ≤ s.size) : ∀ m, m ≤ k → lev (s.extract a s.size) m + 256 ^ m * hvf s a k m = hvf s a k 0
  | 0, _ => by simp [lev]
  | m + 1, h => by
    have ih := lev_hvf s a k hk m (by omega)
    rw [hvf_step s a k m (by omega)] at ih
    simp only [lev]
    rw [bt_extract s a m (by omega)]
    have e : (256 : Int) ^ (m + 1) = 256 ^ m * 256 := Int.pow_succ _ _
    rw [e, ← ih, Int.mul_add, Int.mul_comm (bt s (a + m)), Int.mul_assoc, Int.mul_comm (hvf s a k (m + 1)) 256]
    omega
theorem hvf_lev (s : ByteArray) (a k : Nat) (hk : a + k ≤ s.size) : hvf s a k 0 = lev (s.extract a s.size) k := by
  have := lev_hvf s a k hk k (Nat.le_refl _)
  rw [hvf_end] at this
  omega
theorem hvf_mono (s : ByteArray) (a k : Nat) : ∀ i, i ≤ k → hvf s a k i ≤ hvf s a k 0
  | 0, _ => Int.le_refl _
  | i + 1, h => by
    have ih := hvf_mono s a k i (by omega)
    have st := hvf_step s a k i (by omega)
    have := hvf_nonneg s a k (k - (i + 1)) (i + 1) (by omega)
    have := bt_nonneg s (a + i)
    omega
end Go.Proofs.YtmmpknfkncgjpaaGreatDoor
