/-
  Two writers side by side; a reader beside writers; reading at a place where a number, or a text, was written.
-/
import Derived.Test.YthjinpbclfankaaGreatDoorBytes
namespace Go.Proofs.YthjinpbclfankaaGreatDoor
open Go.RowKit Go.Extern.Stop Go.Stop Go.Extern Go.PlainAid Go.Lib

/-- A writer is as it was, where only other blocks have turned. -/
theorem Wrt.fr {w w' : World} {b c : Nat} {row rc : Option Nat} {bs : List Int} (h : Wrt w b row bs) (hf : Fr c rc w w') (h1 : b ≠ c) (h2 : some b ≠ rc) (h3 : ∀ g, row = some g → g ≠ c ∧ some g ≠ rc) : Wrt w' b row bs := by
  have hl := h.lt
  have hrl := fun g hg => h.row_lt (g := g) hg
  obtain ⟨s, hs, hfz, ho, hr⟩ := h
  have hblk := hf.block b hl h1 h2
  refine ⟨s, ?_, ?_, ?_, hr⟩
  · rw [World.cell?_of_block (w := w) (a := ⟨b, 0, none⟩) hblk]; exact hs
  · rw [World.frozen?_of_block (w := w) (a := ⟨b, 0, none⟩) hblk]; exact hfz
  · obtain ⟨o1, o2⟩ := ho
    refine ⟨o1, ?_⟩
    rcases o2 with o2 | ⟨g, cap, cur, hv, hg, hh, rest⟩
    · exact .inl o2
    · refine .inr ⟨g, cap, cur, hv, hg, ?_, rest⟩
      have hrow : row = some g := by rw [← hr, hv]; rfl
      obtain ⟨k1, k2⟩ := h3 g hrow
      rw [hf.block g (hrl g hrow).2 k1 k2]; exact hh

/-- Two writers, each in blocks of its own. -/
def Two (w : World) (b1 : Nat) (r1 : Option Nat) (bs1 : List Int) (b2 : Nat) (r2 : Option Nat) (bs2 : List Int) : Prop :=
  Wrt w b1 r1 bs1 ∧ Wrt w b2 r2 bs2 ∧ b1 ≠ b2 ∧ r1 ≠ some b2 ∧ r2 ≠ some b1 ∧ ∀ g, r1 = some g → r2 ≠ some g

theorem Two.swap {w : World} {b1 b2 : Nat} {r1 r2 : Option Nat} {bs1 bs2 : List Int} (h : Two w b1 r1 bs1 b2 r2 bs2) : Two w b2 r2 bs2 b1 r1 bs1 := by
  obtain ⟨h1, h2, h3, h4, h5, h6⟩ := h
  exact ⟨h2, h1, Ne.symm h3, h5, h4, fun g hg e => h6 g e hg⟩
theorem Two.below {w w' : World} {b1 b2 : Nat} {r1 r2 : Option Nat} {bs1 bs2 : List Int} (h : Two w b1 r1 bs1 b2 r2 bs2) (hb : Below w.heap.size w w') : Two w' b1 r1 bs1 b2 r2 bs2 := by
  obtain ⟨h1, h2, h3⟩ := h
  exact ⟨h1.below hb, h2.below hb, h3⟩
/-- The first one writes. -/
theorem Two.step {w w' : World} {b1 b2 : Nat} {r1 r1' r2 : Option Nat} {bs1 bs1' bs2 : List Int} (h : Two w b1 r1 bs1 b2 r2 bs2) (hw : Wrt w' b1 r1' bs1') (hr : RowOk r1 r1' w) (hf : Fr b1 r1 w w') : Two w' b1 r1' bs1' b2 r2 bs2 := by
  obtain ⟨h1, h2, h3, h4, h5, h6⟩ := h
  have l1 := h1.lt
  have l2 := h2.lt
  have hl2 := fun g hg => h2.row_lt (g := g) hg
  refine ⟨hw, h2.fr hf (Ne.symm h3) (Ne.symm h4) (fun g hg => ⟨fun e => h5 (by rw [hg, e]), fun e => h6 g e.symm hg⟩), h3, ?_, h5, ?_⟩
  · rcases hr with rfl | ⟨g, rfl, hg⟩
    · exact h4
    · intro e; injection e with e; omega
  · intro g hg e
    rcases hr with rfl | ⟨g', rfl, hg'⟩
    · exact h6 g hg e
    · injection hg with hg; have := (hl2 g e).2; omega

theorem str_append (a b : List Int) : strOfNums a ++ strOfNums b = strOfNums (a ++ b) := by
  apply ByteArray.ext
  simp [strOfNums, ByteArray.data_append]

/-- A number is read where it was written. -/
theorem rnum_at (b p : Nat) (pre post : List Int) (n k : Int) (S : ByteArray) (w : World) (hS : strOfNums (pre ++ leb n k.toNat ++ post) = S) (hp : pre.length = p) (hf : Fits n k) (hby : Byt post) (hz : S.size ≤ 1000000000) (hR : Rdr w b S p) :
    Calls Tryz.prog 17 #[.pointer (some ⟨b, 0, none⟩), .int .i64 k] w fun e w' => e = .returned (.tuple #[.int .i64 n, .nilIface]) ∧ Rdr w' b S (p + k.toNat) ∧ Fr b none w w' := by
  have hk : Width k := by unfold Fits at hf; unfold Width; omega
  have hk8 : k.toNat ≤ 8 ∧ 0 ≤ k := by unfold Width at hk; omega
  have hl := leb_len n k.toNat hk8.1
  have hn : 0 ≤ n ∧ n ≤ 9223372036854775807 := by unfold Fits at hf; omega
  have hsz : S.size = p + k.toNat + post.length := by rw [← hS, strOfNums_size]; simp only [List.length_append, hl, hp]
  have hv : lev (S.extract p S.size) k.toNat = n := by
    rw [← hS, extract_rest, List.append_assoc, List.drop_append, hp, Nat.sub_self, List.drop_zero, List.drop_of_length_le (by omega), List.nil_append]
    exact lev_leb n k post hf hby
  have := rnum_ok b p S k w hR (by omega) hz hk (by omega) (by rw [hv]; exact hn.2) (by rw [hv]; exact hn.1)
  rw [hv] at this
  exact this

end Go.Proofs.YthjinpbclfankaaGreatDoor
