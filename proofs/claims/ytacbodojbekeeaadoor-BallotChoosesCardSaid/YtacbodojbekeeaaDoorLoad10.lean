/-
  Load (package ballot), by a contract.
-/
import Derived.Test.YtacbodojbekeeaaDoorReadP
namespace Go.Proofs.YtacbodojbekeeaaDoor
open Go.RowKit Go.Lib Go.PlainAid

theorem openOf_size (s : ByteArray) : (openOf s).1.size ≤ s.size := by
  unfold openOf
  split
  · simp only [ByteArray.size_extract]; omega
  · exact Nat.zero_le _
set_option maxRecDepth 100000 in
theorem load_any (s : ByteArray) (w : World) (hT : Tab w) (hE : ErrType w) (hs : s.size ≤ 1000000000) :
    Calls Tryd.prog 20 #[.string s] w fun e w' => ∃ v k, e = .returned (.tuple #[v, .int .i64 k]) ∧ Below w.heap.size w w' ∧
      ((loadOf s = none ∧ v = .pointer none ∧ k = 30) ∨ ∃ A a, loadOf s = some A ∧ v = .pointer (some ⟨a, 0, none⟩) ∧ k = 0 ∧ w.heap.size ≤ a ∧ PA w' a A) := by
  have HO := Lib.hid (open_any s w hT (by omega))
  have hgl := hE.lt
  have HE := Lib.hid hE
  have HSz := Lib.hid (show (openOf s).1.size ≤ 1000000000 from Nat.le_trans (openOf_size s) hs)
  have HL := Lib.hid (show loadOf s = if (openOf s).2 = true then parse (openOf s).1 else none from rfl)
  clear hT hE
  obtain ⟨t, ok⟩ : ∃ t ok, openOf s = (t, ok) := ⟨_, _, rfl⟩
  obtain ⟨ok, hok⟩ := ok
  rw [hok] at HO HSz HL
  clear hok
  cases ok with
  | false =>
    go_enter Tryd.func20, Tryd.ntmps20
    go_wp2_with (go_at_call 41; refine HO.out.mono ?_; rintro e w' ⟨rfl, hb⟩; have HB := Lib.hid hb; clear hb)
    go_ret2
    exact ⟨_, _, rfl, HB.out, .inl ⟨by rw [HL.out]; rfl, rfl, rfl⟩⟩
  | true =>
    have hL : loadOf s = parse t := HL.out
    rw [hL]
    clear hL HL
    go_enter Tryd.func20, Tryd.ntmps20
    go_wp2_with fail
    go_at_call 41
    refine HO.out.mono ?_
    rintro e w1 ⟨rfl, hb1⟩
    have HB1 := Lib.hid hb1
    clear hb1 HO
    go_wp2_with fail
    go_at_call 11
    refine (new_any w1).mono ?_
    rintro e w2 ⟨rfl, hp2, hb2, hz2⟩
    have HP2 := Lib.hid hp2.pc
    have HB2 := Lib.hid (HB1.out.trans (hb2.mono HB1.out.size))
    have hz1 := HB1.out.size
    clear hp2 hb2 HB1
    generalize w1.heap.size = a at HP2 hz2 hz1 ⊢
    go_wp2_with fail
    go_at_call 43
    refine (newReader t w2).mono ?_
    rintro e w3 ⟨rfl, hr3, hb3, hz3⟩
    have HP3 := Lib.hid (HP2.out.below hb3)
    have HB3 := Lib.hid (HB2.out.trans (hb3.mono HB2.out.size))
    have HR3 := Lib.hid hr3
    have HE3 := Lib.hid (HE.out.kept ((HB2.out.trans (hb3.mono HB2.out.size)).block _ hgl))
    clear hr3 hb3 HP2 HB2
    generalize w2.heap.size = R at HR3 hz2 hz3 ⊢
    go_wp2_with fail
    go_at_call 42
    refine (read_any a R t w3 HP3.out HR3.out (by omega) HE3.out (by omega) (by omega) HSz.out).mono ?_
    rintro e w4 ⟨v, rfl, ho, hf⟩
    have HB4 := Lib.hid (show Below w.heap.size w w4 from HB3.out.trans ⟨hf.os, hf.tape, hf.output, hf.size, fun k hk => hf.block k (by have := HB3.out.size; omega) (by omega) (by simp; omega)⟩)
    clear hf
    rcases ho with ⟨A, hp, rfl, hA⟩ | ⟨hp, ty, x, rfl⟩
    · have HA := Lib.hid (show PA w4 a A from ⟨hA, (parse_some hp).1⟩)
      have HPa := Lib.hid hp
      clear hA hp
      go_wp2
      go_ret2
      exact ⟨_, _, rfl, HB4.out, .inr ⟨A, a, HPa.out, rfl, rfl, hz1, HA.out⟩⟩
    · have HPa := Lib.hid hp
      clear hp
      go_wp2
      go_ret2
      exact ⟨_, _, rfl, HB4.out, .inl ⟨HPa.out, rfl, rfl⟩⟩
end Go.Proofs.YtacbodojbekeeaaDoor
