/-
  The reader's Text, by contracts.

  Plain lemmas on bytes as numbers: what leb writes lev reads; parts of a text made of numbers.

  Two writers side by side; a reader beside writers; reading at a place where a number, or a text, was written.

  The document's own answers of layer 1 (weirkeepref01), by contracts: wide, one, a fault's Code, Same; alike.
-/
import Derived.Test.YtmmpknfkncgjpaaGreatDoorM10
import Derived.Deep.RegionHeld3
namespace Go.Proofs.YtmmpknfkncgjpaaGreatDoor
open Go.RowKit Go.Extern.Stop Go.Stop Go.Extern Go.PlainAid Go.Lib

theorem width2 : Width 2 := .inr (.inl rfl)
theorem lev2_bounds (s : ByteArray) : 0 ≤ lev s 2 ∧ lev s 2 ≤ 65535 := by
  have := bt_nonneg s 0; have := bt_nonneg s 1; have := bt_le s 0; have := bt_le s 1
  simp only [lev]; omega

set_option maxRecDepth 100000 in
theorem rtext_few (b a : Nat) (s : ByteArray) (w : World) (hg : ErrType w) (hR : Rdr w b s a) (ha : a ≤ s.size) (hs : s.size ≤ 1000000000) (hl : s.size - a < 2) :
    Calls Tryz.prog 52 #[.pointer (some ⟨b, 0, none⟩)] w fun e w' => ∃ v, e = .returned (.tuple #[.string ⟨#[]⟩, v]) ∧ Chained w' v [10, 10] ∧ Below w.heap.size w w' := by
  have HG := Lib.hid hg
  have HR := Lib.hid hR
  have hbl := hR.lt
  have hlI : ((s.size - a : Nat) : Int) < 2 := by omega
  have HL := Lib.hid hlI
  obtain ⟨h0, h1, h2⟩ := hR
  clear hg hlI hl
  go_enter Tryz.func52, Tryz.ntmps52
  go_wp2_with fail
  go_at_call 51
  refine (rnum_short w.heap.size a s 2 _ ⟨by simp, by simp, by simp⟩ ha hs width2 HL.out).mono ?_
  rintro e w1 ⟨v, rfl, hc, hb⟩
  have HB := Lib.hid (show Below w.heap.size w w1 from ((Below.refl _ _).alloc (Nat.le_refl _) _).trans (hb.mono (by simp)))
  have HC := Lib.hid hc
  obtain ⟨vb, vo, vu, hvv, _⟩ := hc
  subst hvv
  clear hb h0 h1 h2
  go_wp2_with fail
  go_at_call 86
  refine (code_any _ [10] _ (HG.out.below HB.out) HC.out (by decide)).mono ?_
  rintro e w2 ⟨rfl, hb2⟩
  have HB2 := Lib.hid (HB.out.trans (hb2.mono HB.out.size))
  have HC2 := Lib.hid (HC.out.below hb2)
  clear hb2
  go_wp2_with (go_at_call 83; refine (rfault b a s 10 _ [10] _ (by decide) (HR.out.below HB2.out) HC2.out).mono ?_; rintro e w' ⟨v, rfl, hc, hb⟩)
  go_ret2
  exact ⟨v, rfl, hc, HB2.out.trans (hb.mono HB2.out.size)⟩

set_option maxRecDepth 100000 in
theorem rtext_long (b a : Nat) (s : ByteArray) (w : World) (hR : Rdr w b s a) (ha : a ≤ s.size) (hs : s.size ≤ 1000000000) (hl : 2 ≤ s.size - a) (hL : 1024 < lev (s.extract a s.size) 2) :
    Calls Tryz.prog 52 #[.pointer (some ⟨b, 0, none⟩)] w fun e w' => ∃ v, e = .returned (.tuple #[.string ⟨#[]⟩, v]) ∧ Chained w' v [11] ∧ Below w.heap.size w w' := by
  have HR := Lib.hid hR
  have hbl := hR.lt
  have hb2 := lev2_bounds (s.extract a s.size)
  have hlI : (2 : Int) ≤ ((s.size - a : Nat) : Int) := by omega
  have HL := Lib.hid hlI
  have HN := Lib.hid (fun W hW => rnum_ok w.heap.size a s 2 W hW ha hs width2 HL.out (by show lev (s.extract a s.size) 2 ≤ _; omega) (by show 0 ≤ lev (s.extract a s.size) 2; omega))
  obtain ⟨h0, h1, h2⟩ := hR
  clear hlI hl
  have HN' := Lib.hid (show ∀ W, Rdr W w.heap.size s a → Calls Tryz.prog 51 #[.pointer (some ⟨w.heap.size, 0, none⟩), .int .i64 2] W fun e w' => e = .returned (.tuple #[.int .i64 (lev (s.extract a s.size) 2), .nilIface]) ∧ Rdr w' w.heap.size s (a + 2) ∧ Fr w.heap.size none W w' from fun W hW => HN.out W hW)
  clear HN hb2
  generalize lev (s.extract a s.size) 2 = L at hL HN'
  go_enter Tryz.func52, Tryz.ntmps52
  go_wp2_with fail
  go_at_call 51
  refine (HN'.out _ ⟨by simp, by simp, by simp⟩).mono ?_
  rintro e w1 ⟨rfl, hr1, hf1⟩
  have HB := Lib.hid (show Below w.heap.size w w1 from ((Below.refl _ _).alloc (Nat.le_refl _) _).trans (hf1.below (by simp) (fun g hg => by cases hg)))
  clear hr1 hf1 h0 h1 h2
  go_wp2_with (go_at_call 83; refine (rfault b a s 11 _ [] _ (by decide) (HR.out.below HB.out) rfl).mono ?_; rintro e w' ⟨v, rfl, hc, hb⟩)
  go_ret2
  exact ⟨v, rfl, hc, HB.out.trans (hb.mono HB.out.size)⟩

set_option maxRecDepth 100000 in
theorem rtext_short (b a : Nat) (s : ByteArray) (w : World) (hR : Rdr w b s a) (ha : a ≤ s.size) (hs : s.size ≤ 1000000000) (hl : 2 ≤ s.size - a) (hL : lev (s.extract a s.size) 2 ≤ 1024) (hf : ((s.size - (a + 2) : Nat) : Int) < lev (s.extract a s.size) 2) :
    Calls Tryz.prog 52 #[.pointer (some ⟨b, 0, none⟩)] w fun e w' => ∃ v, e = .returned (.tuple #[.string ⟨#[]⟩, v]) ∧ Chained w' v [10] ∧ Below w.heap.size w w' := by
  have HR := Lib.hid hR
  have hbl := hR.lt
  have hb2 := lev2_bounds (s.extract a s.size)
  have hlI : (2 : Int) ≤ ((s.size - a : Nat) : Int) := by omega
  have HL := Lib.hid hlI
  have HN := Lib.hid (fun W hW => rnum_ok w.heap.size a s 2 W hW ha hs width2 HL.out (by show lev (s.extract a s.size) 2 ≤ _; omega) (by show 0 ≤ lev (s.extract a s.size) 2; omega))
  have HLf := Lib.hid (fun W hW => left_any w.heap.size (a + 2) s W hW (by omega) hs)
  obtain ⟨h0, h1, h2⟩ := hR
  clear hlI hl
  have HN' := Lib.hid (show ∀ W, Rdr W w.heap.size s a → Calls Tryz.prog 51 #[.pointer (some ⟨w.heap.size, 0, none⟩), .int .i64 2] W fun e w' => e = .returned (.tuple #[.int .i64 (lev (s.extract a s.size) 2), .nilIface]) ∧ Rdr w' w.heap.size s (a + 2) ∧ Fr w.heap.size none W w' from fun W hW => HN.out W hW)
  clear HN hb2
  generalize lev (s.extract a s.size) 2 = L at hL HN' hf
  generalize ((s.size - (a + 2) : Nat) : Int) = d at hf HLf
  go_enter Tryz.func52, Tryz.ntmps52
  go_wp2_with fail
  go_at_call 51
  refine (HN'.out _ ⟨by simp, by simp, by simp⟩).mono ?_
  rintro e w1 ⟨rfl, hr1, hf1⟩
  have HB := Lib.hid (show Below w.heap.size w w1 from ((Below.refl _ _).alloc (Nat.le_refl _) _).trans (hf1.below (by simp) (fun g hg => by cases hg)))
  have HR1 := Lib.hid hr1
  clear hr1 hf1 h0 h1 h2
  go_wp2_with fail
  go_at_call 84
  refine (HLf.out _ HR1.out).mono ?_
  rintro e w2 ⟨rfl, hw⟩
  have HB2 := Lib.hid (HB.out.trans (below_of_drew hw w.heap.size))
  clear hw
  go_wp2_with (go_at_call 83; refine (rfault b a s 10 _ [] _ (by decide) (HR.out.below HB2.out) rfl).mono ?_; rintro e w' ⟨v, rfl, hc, hb⟩)
  go_ret2
  exact ⟨v, rfl, hc, HB2.out.trans (hb.mono HB2.out.size)⟩

set_option maxRecDepth 100000 in
theorem rtext_ok (b a L : Nat) (s : ByteArray) (w : World) (hR : Rdr w b s a) (ha : a ≤ s.size) (hs : s.size ≤ 1000000000) (hl : 2 ≤ s.size - a) (hL : lev (s.extract a s.size) 2 = L) (hL2 : L ≤ 1024) (hf : L ≤ s.size - (a + 2)) :
    Calls Tryz.prog 52 #[.pointer (some ⟨b, 0, none⟩)] w fun e w' => e = .returned (.tuple #[.string (s.extract (a + 2) (a + 2 + L)), .nilIface]) ∧ Rdr w' b s (a + 2 + L) ∧ Fr b none w w' := by
  have HR := Lib.hid hR
  have hbl := hR.lt
  have hlI : (2 : Int) ≤ ((s.size - a : Nat) : Int) := by omega
  have HL := Lib.hid hlI
  have HN := Lib.hid (fun W hW => rnum_ok w.heap.size a s 2 W hW ha hs width2 HL.out (by show lev (s.extract a s.size) 2 ≤ _; omega) (by show 0 ≤ lev (s.extract a s.size) 2; omega))
  have HLf := Lib.hid (fun W hW => left_any w.heap.size (a + 2) s W hW (by omega) hs)
  obtain ⟨h0, h1, h2⟩ := hR
  have hfd : decide (((s.size - (a + 2) : Nat) : Int) < (L : Int)) = false := by simp only [decide_eq_false_iff_not]; omega
  have HN' := Lib.hid (show ∀ W, Rdr W w.heap.size s a → Calls Tryz.prog 51 #[.pointer (some ⟨w.heap.size, 0, none⟩), .int .i64 2] W fun e w' => e = .returned (.tuple #[.int .i64 (L : Int), .nilIface]) ∧ Rdr w' w.heap.size s (a + 2) ∧ Fr w.heap.size none W w' from fun W hW => by rw [← hL]; exact HN.out W hW)
  have hLI : (L : Int) ≤ 1024 := by omega
  have hLd : decide ((1024 : Int) < (L : Int)) = false := by simp only [decide_eq_false_iff_not]; omega
  have ha2 : (a : Int) + 2 + L ≤ (s.size : Int) := by omega
  clear HN hlI hL
  generalize ((s.size - (a + 2) : Nat) : Int) = d at hfd HLf
  go_enter Tryz.func52, Tryz.ntmps52
  go_wp2_with fail
  go_at_call 51
  refine (HN'.out _ ⟨by simp, by simp, by simp⟩).mono ?_
  rintro e w1 ⟨rfl, hr1, hf1⟩
  have HB := Lib.hid (show Below w.heap.size w w1 from ((Below.refl _ _).alloc (Nat.le_refl _) _).trans (hf1.below (by simp) (fun g hg => by cases hg)))
  have HR1 := Lib.hid hr1
  clear hr1 hf1 h0 h1 h2
  go_wp2_with fail
  go_at_call 84
  refine (HLf.out _ HR1.out).mono ?_
  rintro e w2 ⟨rfl, hw⟩
  have HB2 := Lib.hid (HB.out.trans (below_of_drew hw w.heap.size))
  obtain ⟨g0, g1, g2⟩ := HR1.out.below (below_of_drew hw _)
  obtain ⟨k0, k1, k2⟩ := HR.out.below HB2.out
  have hne : b ≠ w.heap.size := by omega
  clear hw
  go_wp2
  have hst := Rdr.stored HB2.out ⟨k0, k1, k2⟩ (a + 2 + L)
  have g1' : (w2.setCell ⟨b, 1, none⟩ (.int .i64 ((a + 2 + L : Nat) : Int))).cell? ⟨w.heap.size, 1, none⟩ = some (.int .i64 ((a + 2 : Nat) : Int)) := by
    rw [World.cell?_setCell_other _ _ _ _ (by simp), g1]
  have ec : (a : Int) + 2 + (L : Int) = ((a + 2 + L : Nat) : Int) := by omega
  rw [ec]
  have e3 : ((a + 2 + L : Nat) : Int) ≤ (s.size : Int) := by omega
  have e4 : ((a + 2 : Nat) : Int) ≤ ((a + 2 + L : Nat) : Int) := by omega
  clear g0 g1 g2 k0 k1 k2 ec
  generalize w2.setCell ⟨b, 1, none⟩ (.int .i64 ((a + 2 + L : Nat) : Int)) = w3 at hst g1' ⊢
  obtain ⟨⟨m0, m1, m2⟩, hfr⟩ := hst
  generalize hM : a + 2 + L = M at m1 e3 e4
  have HM := Lib.hid hM
  clear hM
  generalize hN : a + 2 = N at g1' e4
  have HN := Lib.hid hN
  clear hN
  have e6 : (0 : Int) ≤ (N : Int) := Int.natCast_nonneg _
  have e7 : (0 : Int) ≤ (M : Int) := Int.natCast_nonneg _
  have e8 : N ≤ M := by omega
  have e9 : M ≤ s.size := by omega
  clear ha2 hL2 hf hl
  go_quiet (fail)
  go_wp2
  go_ret2
  rw [HM.out, HN.out]
  refine ⟨by simp, ⟨m0, m1, m2⟩, ⟨hfr.os, hfr.tape, hfr.output, hfr.size, hfr.block⟩⟩
end Go.Proofs.YtmmpknfkncgjpaaGreatDoor

namespace Go.Proofs.YtmmpknfkncgjpaaGreatDoor
open Go.RowKit Go.Extern.Stop Go.Stop Go.Extern Go.PlainAid Go.Lib

def Byt (bs : List Int) : Prop := ∀ x ∈ bs, 0 ≤ x ∧ x ≤ 255
theorem Byt.nil : Byt [] := fun _ h => by cases h
theorem Byt.app {a b : List Int} (ha : Byt a) (hb : Byt b) : Byt (a ++ b) := fun x hx => by
  rcases List.mem_append.1 hx with h | h
  · exact ha x h
  · exact hb x h
theorem Byt.drop {a : List Int} (ha : Byt a) (n : Nat) : Byt (a.drop n) := fun x hx => ha x (List.mem_of_mem_drop hx)
theorem Byt.take {a : List Int} (ha : Byt a) (n : Nat) : Byt (a.take n) := fun x hx => ha x (List.mem_of_mem_take hx)
theorem byt_leb (n : Int) (k : Nat) : Byt (leb n k) := by
  intro x hx
  have hx' := List.mem_of_mem_take hx
  simp only [List.mem_cons, List.not_mem_nil, or_false] at hx'
  omega
theorem byt_nums (s : ByteArray) : Byt (nums s) := by
  intro x hx
  obtain ⟨c, _, rfl⟩ := List.mem_map.1 hx
  have := c.toNat_lt
  omega

theorem leb_len (n : Int) (k : Nat) (hk : k ≤ 8) : (leb n k).length = k := by simp [leb]; omega
theorem not_fits3 (n : Int) : ¬ Fits n 3 := by unfold Fits; omega

theorem bt_str (bs : List Int) (h : Byt bs) (i : Nat) (hi : i < bs.length) : bt (strOfNums bs) i = bs[i] := by
  unfold bt
  have hs : i < (strOfNums bs).size := by rw [strOfNums_size]; exact hi
  rw [dif_pos hs]
  have e : (strOfNums bs)[i]'hs = UInt8.ofNat (bs[i]).toNat := by
    have h2 : (strOfNums bs).data[i]? = some (UInt8.ofNat (bs[i]).toNat) := by simp [strOfNums, hi]
    exact (Array.getElem?_eq_some_iff.1 h2).2
  rw [e]
  have := h bs[i] (List.getElem_mem hi)
  simp [UInt8.toNat_ofNat']
  omega

theorem extract_str (bs : List Int) (a e : Nat) : (strOfNums bs).extract a e = strOfNums ((bs.drop a).take (e - a)) := by
  unfold strOfNums
  rw [ByteArray.extract_mk]
  simp [List.map_take, List.map_drop]
theorem extract_rest (bs : List Int) (a : Nat) : (strOfNums bs).extract a (strOfNums bs).size = strOfNums (bs.drop a) := by
  rw [extract_str, strOfNums_size]
  congr 1
  exact List.take_of_length_le (by simp)

theorem str_nums (s : ByteArray) : strOfNums (nums s) = s := by
  unfold strOfNums nums
  have : (List.map (fun n => UInt8.ofNat n.toNat) (List.map (fun c : UInt8 => (c.toNat : Int)) s.data.toList)) = s.data.toList := by
    rw [List.map_map]
    conv => rhs; rw [← List.map_id s.data.toList]
    apply List.map_congr_left
    intro c _
    simp
  rw [this]

theorem lev_leb (n k : Int) (post : List Int) (hf : Fits n k) (hp : Byt post) : lev (strOfNums (leb n k.toNat ++ post)) k.toNat = n := by
  obtain ⟨h0, hf⟩ := hf
  have hb : Byt (leb n k.toNat ++ post) := (byt_leb n k.toNat).app hp
  rcases hf with ⟨rfl, h⟩ | ⟨rfl, h⟩ | ⟨rfl, h⟩ | ⟨rfl, h⟩
  · have b0 := bt_str _ hb 0 (by simp [leb])
    simp only [Int.reduceToNat, leb, List.take, List.cons_append, List.getElem_cons_zero, List.nil_append] at b0
    simp only [Int.reduceToNat, leb, List.take, List.cons_append, List.nil_append, lev, b0]
    omega
  · have b0 := bt_str _ hb 0 (by simp [leb])
    have b1 := bt_str _ hb 1 (by simp [leb])
    simp only [Int.reduceToNat, leb, List.take, List.cons_append, List.getElem_cons_zero, List.getElem_cons_succ, List.nil_append] at b0 b1
    simp only [Int.reduceToNat, leb, List.take, List.cons_append, List.nil_append, lev, b0, b1]
    omega
  · have b0 := bt_str _ hb 0 (by simp [leb])
    have b1 := bt_str _ hb 1 (by simp [leb])
    have b2 := bt_str _ hb 2 (by simp [leb])
    have b3 := bt_str _ hb 3 (by simp [leb])
    simp only [Int.reduceToNat, leb, List.take, List.cons_append, List.getElem_cons_zero, List.getElem_cons_succ, List.nil_append] at b0 b1 b2 b3
    simp only [Int.reduceToNat, leb, List.take, List.cons_append, List.nil_append, lev, b0, b1, b2, b3]
    omega
  · have b0 := bt_str _ hb 0 (by simp [leb])
    have b1 := bt_str _ hb 1 (by simp [leb])
    have b2 := bt_str _ hb 2 (by simp [leb])
    have b3 := bt_str _ hb 3 (by simp [leb])
    have b4 := bt_str _ hb 4 (by simp [leb])
    have b5 := bt_str _ hb 5 (by simp [leb])
    have b6 := bt_str _ hb 6 (by simp [leb])
    have b7 := bt_str _ hb 7 (by simp [leb])
    simp only [Int.reduceToNat, leb, List.take, List.cons_append, List.getElem_cons_zero, List.getElem_cons_succ, List.nil_append] at b0 b1 b2 b3 b4 b5 b6 b7
    simp only [Int.reduceToNat, leb, List.take, List.cons_append, List.nil_append, lev, b0, b1, b2, b3, b4, b5, b6, b7]
    omega
end Go.Proofs.YtmmpknfkncgjpaaGreatDoor

namespace Go.Proofs.YtmmpknfkncgjpaaGreatDoor
open Go.RowKit Go.Extern.Stop Go.Stop Go.Extern Go.PlainAid Go.Lib

/-- A writer is as it was, where only other blocks have turned. -/
theorem Wrt.fr {w w' : World} {b c : Nat} {row rc : Option Nat} {bs : List Int} (h : Wrt w b row bs) (hf : Fr c rc w w') (h1 : b ≠ c) (h2 : some b ≠ rc) (h3 : ∀ g, row = some g → g ≠ c ∧ some g ≠ rc) : Wrt w' b row bs := by
  have hl := h.lt
  have hrl := fun g hg => h.row_lt (g := g) hg
  obtain ⟨s, hs, hfz, ho, hr⟩ := h
  have hblk := hf.block b hl h1 h2
  refine ⟨s, ?_, ?_, ?_, hr⟩
  · rw [World.cell?_of_block (w := w) (a := ⟨b, 0, none⟩) hblk]; exact hs
  · rw [World.frozen?_of_block (w := w) (a := ⟨b, 0, none⟩) hblk]; exact hfz
  · obtain ⟨o1, o2⟩ := ho
    refine ⟨o1, ?_⟩
    rcases o2 with o2 | ⟨g, cap, cur, hv, hg, hh, rest⟩
    · exact .inl o2
    · refine .inr ⟨g, cap, cur, hv, hg, ?_, rest⟩
      have hrow : row = some g := by rw [← hr, hv]; rfl
      obtain ⟨k1, k2⟩ := h3 g hrow
      rw [hf.block g (hrl g hrow).2 k1 k2]; exact hh

/-- Two writers, each in blocks of its own. -/
def Two (w : World) (b1 : Nat) (r1 : Option Nat) (bs1 : List Int) (b2 : Nat) (r2 : Option Nat) (bs2 : List Int) : Prop :=
  Wrt w b1 r1 bs1 ∧ Wrt w b2 r2 bs2 ∧ b1 ≠ b2 ∧ r1 ≠ some b2 ∧ r2 ≠ some b1 ∧ ∀ g, r1 = some g → r2 ≠ some g

theorem Two.swap {w : World} {b1 b2 : Nat} {r1 r2 : Option Nat} {bs1 bs2 : List Int} (h : Two w b1 r1 bs1 b2 r2 bs2) : Two w b2 r2 bs2 b1 r1 bs1 := by
  obtain ⟨h1, h2, h3, h4, h5, h6⟩ := h
  exact ⟨h2, h1, Ne.symm h3, h5, h4, fun g hg e => h6 g e hg⟩
theorem Two.below {w w' : World} {b1 b2 : Nat} {r1 r2 : Option Nat} {bs1 bs2 : List Int} (h : Two w b1 r1 bs1 b2 r2 bs2) (hb : Below w.heap.size w w') : Two w' b1 r1 bs1 b2 r2 bs2 := by
  obtain ⟨h1, h2, h3⟩ := h
  exact ⟨h1.below hb, h2.below hb, h3⟩
/-- The first one writes. -/
theorem Two.step {w w' : World} {b1 b2 : Nat} {r1 r1' r2 : Option Nat} {bs1 bs1' bs2 : List Int} (h : Two w b1 r1 bs1 b2 r2 bs2) (hw : Wrt w' b1 r1' bs1') (hr : RowOk r1 r1' w) (hf : Fr b1 r1 w w') : Two w' b1 r1' bs1' b2 r2 bs2 := by
  obtain ⟨h1, h2, h3, h4, h5, h6⟩ := h
  have l1 := h1.lt
  have l2 := h2.lt
  have hl2 := fun g hg => h2.row_lt (g := g) hg
  refine ⟨hw, h2.fr hf (Ne.symm h3) (Ne.symm h4) (fun g hg => ⟨fun e => h5 (by rw [hg, e]), fun e => h6 g e.symm hg⟩), h3, ?_, h5, ?_⟩
  · rcases hr with rfl | ⟨g, rfl, hg⟩
    · exact h4
    · intro e; injection e with e; omega
  · intro g hg e
    rcases hr with rfl | ⟨g', rfl, hg'⟩
    · exact h6 g hg e
    · injection hg with hg; have := (hl2 g e).2; omega

theorem str_append (a b : List Int) : strOfNums a ++ strOfNums b = strOfNums (a ++ b) := by
  apply ByteArray.ext
  simp [strOfNums, ByteArray.data_append]

/-- A number is read where it was written. -/
theorem rnum_at (b p : Nat) (pre post : List Int) (n k : Int) (S : ByteArray) (w : World) (hS : strOfNums (pre ++ leb n k.toNat ++ post) = S) (hp : pre.length = p) (hf : Fits n k) (hby : Byt post) (hz : S.size ≤ 1000000000) (hR : Rdr w b S p) :
    Calls Tryz.prog 51 #[.pointer (some ⟨b, 0, none⟩), .int .i64 k] w fun e w' => e = .returned (.tuple #[.int .i64 n, .nilIface]) ∧ Rdr w' b S (p + k.toNat) ∧ Fr b none w w' := by
  have hk : Width k := by unfold Fits at hf; unfold Width; omega
  have hk8 : k.toNat ≤ 8 ∧ 0 ≤ k := by unfold Width at hk; omega
  have hl := leb_len n k.toNat hk8.1
  have hn : 0 ≤ n ∧ n ≤ 9223372036854775807 := by unfold Fits at hf; omega
  have hsz : S.size = p + k.toNat + post.length := by rw [← hS, strOfNums_size]; simp only [List.length_append, hl, hp]
  have hv : lev (S.extract p S.size) k.toNat = n := by
    rw [← hS, extract_rest, List.append_assoc, List.drop_append, hp, Nat.sub_self, List.drop_zero, List.drop_of_length_le (by omega), List.nil_append]
    exact lev_leb n k post hf hby
  have := rnum_ok b p S k w hR (by omega) hz hk (by omega) (by rw [hv]; exact hn.2) (by rw [hv]; exact hn.1)
  rw [hv] at this
  exact this

/-- A text is read where it was written. -/
theorem rtext_at (b p : Nat) (pre post : List Int) (t S : ByteArray) (w : World) (hS : strOfNums (pre ++ leb (t.size : Int) 2 ++ nums t ++ post) = S) (hp : pre.length = p) (ht : t.size ≤ 1024) (hby : Byt post) (hz : S.size ≤ 1000000000) (hR : Rdr w b S p) :
    Calls Tryz.prog 52 #[.pointer (some ⟨b, 0, none⟩)] w fun e w' => e = .returned (.tuple #[.string t, .nilIface]) ∧ Rdr w' b S (p + 2 + t.size) ∧ Fr b none w w' := by
  have hl := leb_len (t.size : Int) 2 (by decide)
  have hn := nums_length t
  have hsz : S.size = p + 2 + t.size + post.length := by rw [← hS, strOfNums_size]; simp only [List.length_append, hl, hp, hn]
  have hv : lev (S.extract p S.size) 2 = (t.size : Int) := by
    rw [← hS, extract_rest, List.append_assoc, List.append_assoc, List.drop_append, hp, Nat.sub_self, List.drop_zero, List.drop_of_length_le (by omega), List.nil_append]
    exact lev_leb t.size 2 _ (by unfold Fits; omega) ((byt_nums t).app hby)
  have he : S.extract (p + 2) (p + 2 + t.size) = t := by
    rw [← hS, extract_str]
    have e1 : (pre ++ leb (t.size : Int) 2 ++ nums t ++ post).drop (p + 2) = nums t ++ post := by
      rw [List.append_assoc, List.drop_append, List.drop_of_length_le (by rw [List.length_append]; omega), List.nil_append, List.length_append, hp, hl, Nat.sub_self, List.drop_zero]
    have e2 : p + 2 + t.size - (p + 2) = (nums t).length := by omega
    rw [e1, e2, List.take_left, str_nums]
  have := rtext_ok b p t.size S w hR (by omega) hz (by omega) hv ht (by omega)
  rw [he] at this
  exact this
end Go.Proofs.YtmmpknfkncgjpaaGreatDoor

namespace Go.Proofs.YtmmpknfkncgjpaaGreatDoor
open Go.RowKit Go.Extern.Stop Go.Stop Go.Extern Go.PlainAid Go.Lib

theorem wide_yes (k : Int) (w : World) (h : Width k) :
    Calls Tryz.prog 81 #[.int .i64 k] w fun e w' => e = .returned (.bool true) ∧ w = w' := by
  rcases h with rfl | rfl | rfl | rfl
  all_goals
    go_enter Tryz.func81, Tryz.ntmps81
    go_wp2
    go_ret
    exact ⟨rfl, rfl⟩
theorem wide_no (k : Int) (w : World) (h : ¬ Width k) :
    Calls Tryz.prog 81 #[.int .i64 k] w fun e w' => e = .returned (.bool false) ∧ w = w' := by
  have k1 : (k == 1) = false := by simp only [beq_eq_false_iff_ne]; exact fun e => h (.inl e)
  have k2 : (k == 2) = false := by simp only [beq_eq_false_iff_ne]; exact fun e => h (.inr (.inl e))
  have k4 : (k == 4) = false := by simp only [beq_eq_false_iff_ne]; exact fun e => h (.inr (.inr (.inl e)))
  have k8 : (k == 8) = false := by simp only [beq_eq_false_iff_ne]; exact fun e => h (.inr (.inr (.inr e)))
  clear h
  go_enter Tryz.func81, Tryz.ntmps81
  go_wp2
  go_ret
  exact ⟨rfl, rfl⟩

/-- A fault of the document's: its errors es, in memory. -/
def RF (w : World) (A : Option Addr) (n c : Nat) (es : List Int) : Prop :=
  es.length = n ∧ n ≤ c ∧ (es = [] ∧ A = none ∧ c = 0 ∨ ∃ g, A = some ⟨g, 0, none⟩ ∧ ∀ j x, es[j]? = some x → w.cell? ⟨g, j, none⟩ = some (.int .i64 x))

theorem RF.below {w w' : World} {A : Option Addr} {n c : Nat} {es : List Int} (h : RF w A n c es) (hb : Below w.heap.size w w') : RF w' A n c es := by
  obtain ⟨h1, h2, h3⟩ := h
  refine ⟨h1, h2, ?_⟩
  rcases h3 with h3 | ⟨g, hA, hc⟩
  · exact .inl h3
  · exact .inr ⟨g, hA, fun j x hx => by rw [hb.cell (p := ⟨g, j, none⟩) (cell_lt (hc j x hx))]; exact hc j x hx⟩
theorem RF.none_ {w : World} : RF w none 0 0 [] := ⟨rfl, Nat.le_refl _, .inl ⟨rfl, rfl, rfl⟩⟩

theorem one_any (E at_ : Int) (w : World) :
    Calls Tryz.prog 82 #[.int .i64 E, .int .i64 at_] w fun e w' => ∃ A, e = .returned (.agg #[.slice A 1 1, .int .i64 at_]) ∧ RF w' A 1 1 [E] ∧ (∀ g, A = some ⟨g, 0, none⟩ → w.heap.size ≤ g) ∧ Below w.heap.size w w' := by
  go_enter Tryz.func82, Tryz.ntmps82
  go_wp2
  go_returns
  refine ⟨_, rfl, ⟨rfl, Nat.le_refl _, .inr ⟨_, rfl, fun j x hx => ?_⟩⟩, fun g hg => ?_, by go_grown⟩
  · match j, hx with
    | 0, hx => simp at hx; subst hx; simp
  · injection hg with hg; injection hg with hg; omega
theorem RF.setOther {w : World} {A : Option Addr} {n c : Nat} {es : List Int} (h : RF w A n c es) {p : Addr} (u : Value) (hp : ∀ g, A = some ⟨g, 0, none⟩ → p.block ≠ g) : RF (w.setCell p u) A n c es := by
  obtain ⟨h1, h2, h3⟩ := h
  refine ⟨h1, h2, ?_⟩
  rcases h3 with h3 | ⟨g, hA, hc⟩
  · exact .inl h3
  · refine .inr ⟨g, hA, fun j x hx => ?_⟩
    rw [World.cell?_setCell_other _ _ _ _ (fun e => hp g hA (by rw [e]))]
    exact hc j x hx

/-- A fault's Code. -/
theorem rcode_any (A : Option Addr) (n c : Nat) (es : List Int) (at_ : Int) (w : World) (h : RF w A n c es) (hn : n ≤ 1000) :
    Calls Tryz.prog 55 #[.agg #[.slice A n c, .int .i64 at_]] w fun e w' => e = .returned (.int .i64 (es.headD 0)) ∧ Below w.heap.size w w' := by
  obtain ⟨h1, h2, h3⟩ := h
  cases es with
  | nil =>
    obtain rfl : n = 0 := h1.symm
    clear h3
    go_enter Tryz.func55, Tryz.ntmps55
    go_wp2
    go_ret
    exact ⟨rfl, by go_grown⟩
  | cons x es =>
    rcases h3 with ⟨h, _⟩ | ⟨g, rfl, hc⟩
    · cases h
    · have hx := hc 0 x rfl
      have hgl := cell_lt hx
      have hx1 : ∀ o, (w.alloc o).cell? ⟨g, 0, none⟩ = some (.int .i64 x) := fun o => by rw [World.cell?_alloc_lt _ _ ⟨g, 0, none⟩ hgl]; exact hx
      have hpos : (0 : Int) < (n : Int) := by simp at h1; omega
      have hne : ((n : Int) == 0) = false := by simp only [beq_eq_false_iff_ne]; omega
      clear hc h1
      go_enter Tryz.func55, Tryz.ntmps55
      go_wp2
      go_ret
      exact ⟨rfl, by go_grown⟩
end Go.Proofs.YtmmpknfkncgjpaaGreatDoor
