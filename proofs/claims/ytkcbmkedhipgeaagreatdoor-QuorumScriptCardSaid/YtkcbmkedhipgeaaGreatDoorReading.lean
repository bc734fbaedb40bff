/-
  The program's reader, and the document's own, by contracts: a number, a text, the end, wherever they stand.

  The closures of read (package ballot), by contracts: keep, number, text.

  What is kept while an acceptor is read (package ballot).
-/
import Derived.Test.YtkcbmkedhipgeaaGreatDoorMem
import Derived.Test.YtkcbmkedhipgeaaGreatDoorRrtext
import Derived.Test.YtkcbmkedhipgeaaGreatDoorAcp3
namespace Go.Proofs.YtkcbmkedhipgeaaGreatDoor
open Go.RowKit Go.Lib Go.PlainAid

theorem bt7_of_lev (s : ByteArray) (a : Nat) (h : a + 8 ≤ s.size) : (lev (s.extract a s.size) 8 ≤ 9223372036854775807 ↔ bt s (a + 7) ≤ 127) := by
  have e := bt_extract s a 7 (by omega)
  generalize s.extract a s.size = T at e ⊢
  have b0 := bt_nonneg T 0; have b1 := bt_nonneg T 1; have b2 := bt_nonneg T 2; have b3 := bt_nonneg T 3; have b4 := bt_nonneg T 4; have b5 := bt_nonneg T 5; have b6 := bt_nonneg T 6; have b7 := bt_nonneg T 7
  have c0 := bt_le T 0; have c1 := bt_le T 1; have c2 := bt_le T 2; have c3 := bt_le T 3; have c4 := bt_le T 4; have c5 := bt_le T 5; have c6 := bt_le T 6; have c7 := bt_le T 7
  rw [← e]
  simp only [lev]
  omega
theorem lev_small (s : ByteArray) (k : Int) (hk : Width k) (h : k ≠ 8) : lev s k.toNat ≤ 9223372036854775807 := by
  have c0 := bt_le s 0; have c1 := bt_le s 1; have c2 := bt_le s 2; have c3 := bt_le s 3
  rcases hk with rfl | rfl | rfl | rfl
  · simp only [Int.reduceToNat, lev]; omega
  · simp only [Int.reduceToNat, lev]; omega
  · simp only [Int.reduceToNat, lev]; omega
  · exact absurd rfl h
theorem width28 {k : Nat} (hk : k = 2 ∨ k = 8) : Width (k : Int) := by unfold Width; omega
theorem chained_iface {w : World} {v : Value} {e : Int} {es : List Int} (h : Chained w v (e :: es)) : ∃ ty x, v = .iface ty x := by
  obtain ⟨b, o, u, rfl, -⟩ := h; exact ⟨_, _, rfl⟩

/-! ### the program's reader -/
theorem rnumAt (b a : Nat) (t : ByteArray) (k : Nat) (hk : k = 2 ∨ k = 8) (w : World) (hR : Rdr w b t a) (ha : a ≤ t.size) (hs : t.size ≤ 1000000000) :
    Calls Tryz.prog 74 #[.pointer (some ⟨b, 0, none⟩), .int .i64 (k : Int)] w fun e w' => ∃ n v a', e = .returned (.tuple #[.int .i64 n, v]) ∧ Rdr w' b t a' ∧ a' ≤ t.size ∧ Fb b w w' ∧
      ((numAt t a k = some n ∧ v = .nilIface ∧ a' = a + k) ∨ (numAt t a k = none ∧ n = 0 ∧ a' = a ∧ ∃ ty x, v = .iface ty x)) := by
  unfold numAt
  by_cases h1 : t.size < a + k
  · rw [if_pos h1]
    refine (rnum_short b a t k w hR ha hs (width28 hk) (by omega)).mono ?_
    rintro e w' ⟨v, rfl, hc, hb⟩
    exact ⟨0, v, a, rfl, hR.below hb, ha, Fb.of_below hb, .inr ⟨rfl, rfl, rfl, chained_iface hc⟩⟩
  · rw [if_neg h1]
    by_cases h2 : 9223372036854775807 < lev (t.extract a t.size) k
    · rw [if_pos h2]
      refine (rnum_long b a t k w hR ha hs (width28 hk) (by omega) (by rw [Int.toNat_natCast]; exact h2)).mono ?_
      rintro e w' ⟨v, rfl, hc, hb⟩
      exact ⟨0, v, a, rfl, hR.below hb, ha, Fb.of_below hb, .inr ⟨rfl, rfl, rfl, chained_iface hc⟩⟩
    · rw [if_neg h2]
      refine (rnum_ok b a t k w hR ha hs (width28 hk) (by omega) (by rw [Int.toNat_natCast]; omega) (lev_nonneg' _ _)).mono ?_
      rintro e w' ⟨rfl, hr, hf⟩
      rw [Int.toNat_natCast] at hr ⊢
      exact ⟨_, _, a + k, rfl, hr, by omega, hf, .inl ⟨rfl, rfl, rfl⟩⟩
theorem rtextAt (b a : Nat) (t : ByteArray) (w : World) (hg : ErrType w) (hR : Rdr w b t a) (ha : a ≤ t.size) (hs : t.size ≤ 1000000000) :
    Calls Tryz.prog 76 #[.pointer (some ⟨b, 0, none⟩)] w fun e w' => ∃ x v a', e = .returned (.tuple #[.string x, v]) ∧ Rdr w' b t a' ∧ a' ≤ t.size ∧ Fb b w w' ∧
      ((textAt t a = some x ∧ v = .nilIface ∧ a' = a + 2 + x.size) ∨ (textAt t a = none ∧ x = ⟨#[]⟩ ∧ a' = a ∧ ∃ ty x, v = .iface ty x)) := by
  have hn := lev2_bounds (t.extract a t.size)
  unfold textAt
  by_cases h1 : t.size < a + 2
  · rw [if_pos h1]
    refine (rtext_few b a t w hg hR ha hs (by omega)).mono ?_
    rintro e w' ⟨v, rfl, hc, hb⟩
    exact ⟨_, v, a, rfl, hR.below hb, ha, Fb.of_below hb, .inr ⟨rfl, rfl, rfl, chained_iface hc⟩⟩
  · rw [if_neg h1]
    by_cases h2 : 1024 < lev (t.extract a t.size) 2
    · rw [if_pos h2]
      refine (rtext_long b a t w hR ha hs (by omega) h2).mono ?_
      rintro e w' ⟨v, rfl, hc, hb⟩
      exact ⟨_, v, a, rfl, hR.below hb, ha, Fb.of_below hb, .inr ⟨rfl, rfl, rfl, chained_iface hc⟩⟩
    · rw [if_neg h2]
      by_cases h3 : t.size < a + 2 + (lev (t.extract a t.size) 2).toNat
      · rw [if_pos h3]
        refine (rtext_short b a t w hR ha hs (by omega) (by omega) (by omega)).mono ?_
        rintro e w' ⟨v, rfl, hc, hb⟩
        exact ⟨_, v, a, rfl, hR.below hb, ha, Fb.of_below hb, .inr ⟨rfl, rfl, rfl, chained_iface hc⟩⟩
      · rw [if_neg h3]
        refine (rtext_ok b a (lev (t.extract a t.size) 2).toNat t w hR ha hs (by omega) (by omega) (by omega) (by omega)).mono ?_
        rintro e w' ⟨rfl, hr, hf⟩
        have hsz : (t.extract (a + 2) (a + 2 + (lev (t.extract a t.size) 2).toNat)).size = (lev (t.extract a t.size) 2).toNat := by rw [ByteArray.size_extract]; omega
        exact ⟨_, _, _, rfl, hr, by omega, hf, .inl ⟨rfl, rfl, by rw [hsz]⟩⟩
theorem rendAt (b a : Nat) (t : ByteArray) (w : World) (hR : Rdr w b t a) (ha : a ≤ t.size) (hs : t.size ≤ 1000000000) :
    Calls Tryz.prog 79 #[.pointer (some ⟨b, 0, none⟩)] w fun e w' => ∃ v, e = .returned v ∧ Below w.heap.size w w' ∧ ((a = t.size ∧ v = .nilIface) ∨ (a ≠ t.size ∧ ∃ ty x, v = .iface ty x)) := by
  by_cases h1 : a = t.size
  · subst h1
    refine (end_ok b t w hR hs).mono ?_
    rintro e w' ⟨rfl, hb⟩
    exact ⟨_, rfl, hb, .inl ⟨rfl, rfl⟩⟩
  · refine (end_bad b a t w hR (by omega) hs).mono ?_
    rintro e w' ⟨v, rfl, hc, hb⟩
    exact ⟨_, rfl, hb, .inr ⟨h1, chained_iface hc⟩⟩

/-! ### the document's own -/
end Go.Proofs.YtkcbmkedhipgeaaGreatDoor

namespace Go.Proofs.YtkcbmkedhipgeaaGreatDoor
open Go.RowKit Go.Lib Go.PlainAid

/-- The first error, in block F. -/
def EC (w : World) (F : Nat) (v : Value) : Prop := w.heap[F]? = some (.cells #[v] 114 (0, 0))
theorem EC.lt {w : World} {F : Nat} {v : Value} (h : EC w F v) : F < w.heap.size := (Array.getElem?_eq_some_iff.1 h).1
theorem EC.cell {w : World} {F : Nat} {v : Value} (h : EC w F v) : w.cell? ⟨F, 0, none⟩ = some v := by
  unfold World.cell?; simp only [show w.heap[F]? = _ from h]; rfl
theorem EC.free {w : World} {F : Nat} {v : Value} (h : EC w F v) : w.frozen? ⟨F, 0, none⟩ = false := by
  unfold World.frozen?; simp only [show w.heap[F]? = _ from h]; simp
theorem EC.set {w : World} {F : Nat} {v : Value} (h : EC w F v) (u : Value) : EC (w.setCell ⟨F, 0, none⟩ u) F u := by
  unfold EC; rw [heap_setCell h]; rfl
theorem EC.of_block {w w' : World} {F : Nat} {v : Value} (h : EC w F v) (hb : w'.heap[F]? = w.heap[F]?) : EC w' F v := by unfold EC; rw [hb]; exact h
theorem EC.fb {w w' : World} {F b : Nat} {v : Value} (h : EC w F v) (hf : Fb b w w') (hne : F ≠ b) : EC w' F v := h.of_block (hf.block F h.lt hne (by simp))
theorem EC.below {w w' : World} {F : Nat} {v : Value} (h : EC w F v) (hb : Below w.heap.size w w') : EC w' F v := h.of_block (hb.block F h.lt)
/-- Nothing, or an error. -/
def isE (v : Value) : Prop := v = .nilIface ∨ ∃ ty x, v = .iface ty x
def bad (v : Value) : Prop := ∃ ty x, v = .iface ty x

/-- keep: the first error stays. -/
theorem keep_any (F : Nat) (v fv : Value) (w : World) (h : EC w F fv) (hv : isE v) (hfv : isE fv) :
    Calls Tryz.prog 72 #[v, .pointer (some ⟨F, 0, none⟩)] w fun e w' => e = .returned (.tuple #[]) ∧ ∃ fv', EC w' F fv' ∧ Fb F w w' ∧ isE fv' ∧ (bad fv → bad fv') ∧ (fv = .nilIface → fv' = v) := by
  have c0 := h.cell
  have f0 := h.free
  have HE := Lib.hid (h.set v)
  have HE0 := Lib.hid h
  have HV := Lib.hid hv
  clear h
  rcases hfv with rfl | ⟨ty, x, rfl⟩
  · rcases hv with rfl | ⟨ty, x, rfl⟩
    · go_enter Tryz.func72, Tryz.ntmps72
      go_wp2
      go_end0
      exact ⟨rfl, _, HE.out, Fb.same.set 0 _, HV.out, fun h => by (obtain ⟨_, _, h⟩ := h; cases h), fun _ => rfl⟩
    · go_enter Tryz.func72, Tryz.ntmps72
      go_wp2
      go_end0
      exact ⟨rfl, _, HE.out, Fb.same.set 0 _, HV.out, fun h => by (obtain ⟨_, _, h⟩ := h; cases h), fun _ => rfl⟩
  · go_enter Tryz.func72, Tryz.ntmps72
    go_wp2
    go_end0
    exact ⟨rfl, _, HE0.out, Fb.same, .inr ⟨_, _, rfl⟩, fun h => h, fun h => by cases h⟩

/-- What the closures are made of: the reader's block is told by block Rb, keep lies in block Kb, the first error in F. -/
structure Cl (w : World) (R Rb Kb F : Nat) : Prop where
  rb : w.cell? ⟨Rb, 0, none⟩ = some (.pointer (some ⟨R, 0, none⟩))
  kb : w.cell? ⟨Kb, 0, none⟩ = some (.func (.func 72) #[] #[.pointer (some ⟨F, 0, none⟩)])
theorem Cl.fb {w w' : World} {R Rb Kb F b : Nat} (h : Cl w R Rb Kb F) (hf : Fb b w w') (h1 : Rb ≠ b) (h2 : Kb ≠ b) : Cl w' R Rb Kb F := ⟨hf.cell h.rb h1, hf.cell h.kb h2⟩
theorem Cl.below {w w' : World} {R Rb Kb F : Nat} (h : Cl w R Rb Kb F) (hb : Below w.heap.size w w') : Cl w' R Rb Kb F := ⟨(hb.cell (World.block_lt_of_cell? w _ h.rb)).trans h.rb, (hb.cell (World.block_lt_of_cell? w _ h.kb)).trans h.kb⟩
theorem Rdr.fb {w w' : World} {R b a : Nat} {t : ByteArray} (h : Rdr w R t a) (hf : Fb b w w') (hne : R ≠ b) : Rdr w' R t a := by
  have hl := h.lt
  obtain ⟨h0, h1, h2⟩ := h
  exact ⟨hf.cell h0 hne, hf.cell h1 hne, by rw [World.frozen?_of_block (w := w) (a := ⟨R, 1, none⟩) (hf.block R hl hne (by simp))]; exact h2⟩
/-- Only the reader's block and the first error's have turned. -/
theorem two_fb {R F : Nat} {w w1 w2 : World} (h1 : Fb R w w1) (h2 : Fb F w1 w2) : Fr F (some R) w w2 :=
  ⟨h2.os.trans h1.os, h2.tape.trans h1.tape, h2.output.trans h1.output, Nat.le_trans h1.size h2.size, fun k hk ha hb => (h2.block k (Nat.lt_of_lt_of_le hk h1.size) ha (by simp)).trans (h1.block k hk (fun e => hb (by rw [e])) (by simp))⟩

set_option maxRecDepth 100000 in
set_option maxHeartbeats 1000000 in
theorem number_any (R Rb Kb F a : Nat) (t : ByteArray) (k : Nat) (hk : k = 2 ∨ k = 8) (fv : Value) (w : World) (hC : Cl w R Rb Kb F) (hE : EC w F fv) (hfv : isE fv) (hR : Rdr w R t a) (ha : a ≤ t.size) (hs : t.size ≤ 1000000000) (d1 : Rb ≠ R) (d2 : Kb ≠ R) (d3 : F ≠ R) :
    Calls Tryz.prog 73 #[.int .i64 (k : Int), .pointer (some ⟨Rb, 0, none⟩), .pointer (some ⟨Kb, 0, none⟩)] w fun e w' => ∃ n fv' a', e = .returned (.int .i64 n) ∧ n ≤ 9223372036854775807 ∧ EC w' F fv' ∧ isE fv' ∧ Rdr w' R t a' ∧ a' ≤ t.size ∧ Fr F (some R) w w' ∧
      (bad fv → bad fv') ∧ (fv = .nilIface → (numAt t a k = some n ∧ fv' = .nilIface ∧ a' = a + k) ∨ (numAt t a k = none ∧ bad fv')) := by
  have HN := Lib.hid (rnumAt R a t k hk w hR ha hs)
  have c1 := hC.rb
  have HC := Lib.hid hC
  have HE := Lib.hid hE
  have HF := Lib.hid hfv
  clear hC hR hE hfv hk
  go_enter Tryz.func73, Tryz.ntmps73
  go_wp2_with fail
  go_at_call 74
  refine HN.out.mono ?_
  rintro e w1 ⟨n, v, a', rfl, hr, ha', hf, hor⟩
  have hv : isE v := by
    rcases hor with ⟨-, h, -⟩ | ⟨-, -, -, h⟩
    · exact .inl h
    · exact .inr h
  have c2 := (HC.out.fb hf d1 d2).kb
  have HK := Lib.hid (keep_any F v fv w1 (HE.out.fb hf d3) hv HF.out)
  have HR := Lib.hid hr
  have HF1 := Lib.hid hf
  have HO := Lib.hid hor
  clear hr hf hor hv
  go_wp2_with fail
  go_at_call 72
  refine HK.out.mono ?_
  rintro e w2 ⟨rfl, fv', k1, k2, k3, k4, k5⟩
  have K1 := Lib.hid k1
  have K2 := Lib.hid k2
  have K3 := Lib.hid k3
  have K4 := Lib.hid k4
  have K5 := Lib.hid k5
  clear k1 k2 k3 k4 k5 c1 c2
  go_wp2
  go_ret
  refine ⟨n, fv', a', rfl, (by rcases HO.out with ⟨h1, -, -⟩ | ⟨-, h1, -⟩; exact (numAt_some h1).2.2.2; omega), K1.out, K3.out, HR.out.fb K2.out (Ne.symm d3), ha', two_fb HF1.out K2.out, K4.out, fun h => ?_⟩
  have e := K5.out h
  rcases HO.out with ⟨h1, h2, h3⟩ | ⟨h1, -, -, h2⟩
  · exact .inl ⟨h1, by rw [e, h2], h3⟩
  · exact .inr ⟨h1, by rw [e]; exact h2⟩
set_option maxRecDepth 100000 in
set_option maxHeartbeats 1000000 in
theorem text_any (R Rb Kb F a : Nat) (t : ByteArray) (fv : Value) (w : World) (hg : ErrType w) (hC : Cl w R Rb Kb F) (hE : EC w F fv) (hfv : isE fv) (hR : Rdr w R t a) (ha : a ≤ t.size) (hs : t.size ≤ 1000000000) (d1 : Rb ≠ R) (d2 : Kb ≠ R) (d3 : F ≠ R) :
    Calls Tryz.prog 75 #[.pointer (some ⟨Rb, 0, none⟩), .pointer (some ⟨Kb, 0, none⟩)] w fun e w' => ∃ x fv' a', e = .returned (.string x) ∧ EC w' F fv' ∧ isE fv' ∧ Rdr w' R t a' ∧ a' ≤ t.size ∧ Fr F (some R) w w' ∧
      (bad fv → bad fv') ∧ (fv = .nilIface → (textAt t a = some x ∧ fv' = .nilIface ∧ a' = a + 2 + x.size) ∨ (textAt t a = none ∧ bad fv')) := by
  have HN := Lib.hid (rtextAt R a t w hg hR ha hs)
  have c1 := hC.rb
  have HC := Lib.hid hC
  have HE := Lib.hid hE
  have HF := Lib.hid hfv
  clear hC hR hE hfv hg
  go_enter Tryz.func75, Tryz.ntmps75
  go_wp2_with fail
  go_at_call 76
  refine HN.out.mono ?_
  rintro e w1 ⟨n, v, a', rfl, hr, ha', hf, hor⟩
  have hv : isE v := by
    rcases hor with ⟨-, h, -⟩ | ⟨-, -, -, h⟩
    · exact .inl h
    · exact .inr h
  have c2 := (HC.out.fb hf d1 d2).kb
  have HK := Lib.hid (keep_any F v fv w1 (HE.out.fb hf d3) hv HF.out)
  have HR := Lib.hid hr
  have HF1 := Lib.hid hf
  have HO := Lib.hid hor
  clear hr hf hor hv
  go_wp2_with fail
  go_at_call 72
  refine HK.out.mono ?_
  rintro e w2 ⟨rfl, fv', k1, k2, k3, k4, k5⟩
  have K1 := Lib.hid k1
  have K2 := Lib.hid k2
  have K3 := Lib.hid k3
  have K4 := Lib.hid k4
  have K5 := Lib.hid k5
  clear k1 k2 k3 k4 k5 c1 c2
  go_wp2
  go_ret
  refine ⟨n, fv', a', rfl, K1.out, K3.out, HR.out.fb K2.out (Ne.symm d3), ha', two_fb HF1.out K2.out, K4.out, fun h => ?_⟩
  have e := K5.out h
  rcases HO.out with ⟨h1, h2, h3⟩ | ⟨h1, -, -, h2⟩
  · exact .inl ⟨h1, by rw [e, h2], h3⟩
  · exact .inr ⟨h1, by rw [e]; exact h2⟩
end Go.Proofs.YtkcbmkedhipgeaaGreatDoor

namespace Go.Proofs.YtkcbmkedhipgeaaGreatDoor
open Go.RowKit Go.Lib Go.PlainAid

theorem ErrType.kept {w w' : World} (h : ErrType w) (hb : w'.heap[1]? = w.heap[1]?) : ErrType w' := by
  unfold ErrType at *
  rw [World.cell?_of_block (w := w) (a := ⟨1, 0, none⟩) hb]; exact h
theorem ErrType.lt {w : World} (h : ErrType w) : 1 < w.heap.size := World.block_lt_of_cell? w _ h
/-- An acceptor is being read into block a, from the reader in block R; since w only these have turned, and new blocks. -/
structure Rs (w : World) (a R : Nat) (t : ByteArray) (wr : World) (fv : Value) (q : Nat) (p : Int) (l : List V) : Prop where
  la : a < w.heap.size
  lR : R < w.heap.size
  ne : a ≠ R
  ga : 1 < a
  gR : 1 < R
  cl : Cl wr R w.heap.size (w.heap.size + 2) (w.heap.size + 1)
  ec : EC wr (w.heap.size + 1) fv
  ise : isE fv
  rdr : Rdr wr R t q
  le : q ≤ t.size
  sz : t.size ≤ 1000000000
  fr : Fr a (some R) w wr
  et : ErrType wr
  pc : PC wr a p l
  srt : Srt 0 l
section
variable {w wr w' : World} {a R q q' : Nat} {t : ByteArray} {fv fv' : Value} {p p' : Int} {l l' : List V}
theorem PC.two (h : PC wr a p l) {F : Nat} (hE : EC wr F fv) (hR : Rdr wr R t q) (h1 : a ≠ F) (h2 : a ≠ R) (hf : Fr F (some R) wr w') : PC w' a p l := by
  refine h.kept (hf.block a h.lt h1 (by simp; omega)) fun z v hz => hf.block z hz.lt (type_ne hz hE (by decide)) (fun e => ?_)
  injection e with e
  subst e
  have h0 := hz.all.1
  rw [hR.1] at h0
  cases h0
/-- A closure was called: the reader and the first error have turned. -/
theorem Rs.clo (h : Rs w a R t wr fv q p l) (hE : EC w' (w.heap.size + 1) fv') (hi : isE fv') (hR : Rdr w' R t q') (hq : q' ≤ t.size) (hf : Fr (w.heap.size + 1) (some R) wr w') : Rs w a R t w' fv' q' p l := by
  have h1 := h.la
  have h2 := h.lR
  have h3 := h.gR
  have h4 := h.fr.size
  refine ⟨h1, h2, h.ne, h.ga, h3, ⟨?_, ?_⟩, hE, hi, hR, hq, h.sz, ⟨hf.os.trans h.fr.os, hf.tape.trans h.fr.tape, hf.output.trans h.fr.output, Nat.le_trans h.fr.size hf.size, fun k hk g1 g2 => (hf.block k (by omega) (by omega) g2).trans (h.fr.block k hk g1 g2)⟩, h.et.kept (hf.block _ h.et.lt (by omega) (by simp; omega)), h.pc.two h.ec h.rdr (by omega) h.ne hf, h.srt⟩
  · have hl := World.block_lt_of_cell? wr _ h.cl.rb
    rw [World.cell?_of_block (w := wr) (a := ⟨w.heap.size, 0, none⟩) (hf.block w.heap.size hl (by omega) (by simp; omega))]; exact h.cl.rb
  · have hl := World.block_lt_of_cell? wr _ h.cl.kb
    rw [World.cell?_of_block (w := wr) (a := ⟨w.heap.size + 2, 0, none⟩) (hf.block (w.heap.size + 2) hl (by omega) (by simp; omega))]; exact h.cl.kb
/-- keep was called. -/
theorem Rs.kp (h : Rs w a R t wr fv q p l) (hE : EC w' (w.heap.size + 1) fv') (hi : isE fv') (hf : Fb (w.heap.size + 1) wr w') : Rs w a R t w' fv' q p l :=
  h.clo hE hi (h.rdr.fb hf (by have := h.lR; omega)) h.le ⟨hf.os, hf.tape, hf.output, hf.size, fun k hk g1 _ => hf.block k hk g1 (by simp)⟩
/-- New blocks alone. -/
theorem Rs.low (h : Rs w a R t wr fv q p l) (hb : Below wr.heap.size wr w') : Rs w a R t w' fv q p l := by
  have h4 := h.fr.size
  exact ⟨h.la, h.lR, h.ne, h.ga, h.gR, h.cl.below hb, h.ec.below hb, h.ise, h.rdr.below hb, h.le, h.sz, ⟨hb.os.trans h.fr.os, hb.tape.trans h.fr.tape, hb.output.trans h.fr.output, Nat.le_trans h.fr.size hb.size, fun k hk g1 g2 => (hb.block k (by omega)).trans (h.fr.block k hk g1 g2)⟩, h.et.kept (hb.block _ h.et.lt), h.pc.below hb, h.srt⟩
/-- The acceptor has turned. -/
theorem Rs.acc (h : Rs w a R t wr fv q p l) (hP : PC w' a p' l') (hs : Srt 0 l') (hf : Fb a wr w') : Rs w a R t w' fv q p' l' := by
  have h1 := h.la
  have h2 := h.lR
  have h4 := h.fr.size
  have h5 := h.ne
  exact ⟨h1, h2, h.ne, h.ga, h.gR, h.cl.fb hf (by omega) (by omega), h.ec.fb hf (by omega), h.ise, h.rdr.fb hf (Ne.symm h5), h.le, h.sz, ⟨hf.os.trans h.fr.os, hf.tape.trans h.fr.tape, hf.output.trans h.fr.output, Nat.le_trans h.fr.size hf.size, fun k hk g1 g2 => (hf.block k (by omega) g1 (by simp)).trans (h.fr.block k hk g1 g2)⟩, h.et.kept (hf.block _ h.et.lt (by have := h.ga; omega) (by simp)), hP, hs⟩
theorem Rs.number (h : Rs w a R t wr fv q p l) (k : Nat) (hk : k = 2 ∨ k = 8) :
    Calls Tryz.prog 73 #[.int .i64 (k : Int), .pointer (some ⟨w.heap.size, 0, none⟩), .pointer (some ⟨w.heap.size + 2, 0, none⟩)] wr fun e w' => ∃ n fv' q', e = .returned (.int .i64 n) ∧ n ≤ 9223372036854775807 ∧ Rs w a R t w' fv' q' p l ∧ Fr (w.heap.size + 1) (some R) wr w' ∧
      (bad fv → bad fv') ∧ (fv = .nilIface → (numAt t q k = some n ∧ fv' = .nilIface ∧ q' = q + k) ∨ (numAt t q k = none ∧ bad fv')) := by
  have h2 := h.lR
  refine (number_any R w.heap.size (w.heap.size + 2) (w.heap.size + 1) q t k hk fv wr h.cl h.ec h.ise h.rdr h.le h.sz (by omega) (by omega) (by omega)).mono ?_
  rintro e w' ⟨n, fv', q', rfl, k0, k1, k2, k3, k4, k5, k6, k7⟩
  exact ⟨n, fv', q', rfl, k0, h.clo k1 k2 k3 k4 k5, k5, k6, k7⟩
theorem Rs.text (h : Rs w a R t wr fv q p l) :
    Calls Tryz.prog 75 #[.pointer (some ⟨w.heap.size, 0, none⟩), .pointer (some ⟨w.heap.size + 2, 0, none⟩)] wr fun e w' => ∃ x fv' q', e = .returned (.string x) ∧ Rs w a R t w' fv' q' p l ∧ Fr (w.heap.size + 1) (some R) wr w' ∧
      (bad fv → bad fv') ∧ (fv = .nilIface → (textAt t q = some x ∧ fv' = .nilIface ∧ q' = q + 2 + x.size) ∨ (textAt t q = none ∧ bad fv')) := by
  have h2 := h.lR
  refine (text_any R w.heap.size (w.heap.size + 2) (w.heap.size + 1) q t fv wr h.et h.cl h.ec h.ise h.rdr h.le h.sz (by omega) (by omega) (by omega)).mono ?_
  rintro e w' ⟨n, fv', q', rfl, k1, k2, k3, k4, k5, k6, k7⟩
  exact ⟨n, fv', q', rfl, h.clo k1 k2 k3 k4 k5, k5, k6, k7⟩
theorem Rs.keep (h : Rs w a R t wr fv q p l) (v : Value) (hv : isE v) :
    Calls Tryz.prog 72 #[v, .pointer (some ⟨w.heap.size + 1, 0, none⟩)] wr fun e w' => e = .returned (.tuple #[]) ∧ ∃ fv', Rs w a R t w' fv' q p l ∧ Fb (w.heap.size + 1) wr w' ∧ (bad fv → bad fv') ∧ (fv = .nilIface → fv' = v) := by
  refine (keep_any (w.heap.size + 1) v fv wr h.ec hv h.ise).mono ?_
  rintro e w' ⟨rfl, fv', k1, k2, k3, k4, k5⟩
  exact ⟨rfl, fv', h.kp k1 k3 k2, k2, k4, k5⟩
end
theorem bad_iface (ty : TypeId) (x : Value) : bad (.iface ty x) := ⟨ty, x, rfl⟩
theorem isE_cases {v : Value} (h : isE v) : v = .nilIface ∨ bad v := h
/-- What three fields make of a vote. -/
theorem three {t : ByteArray} {q q1 q2 q3 : Nat} {f1 f2 f3 : Value} {s b : Int} {x : ByteArray}
    (h1 : (numAt t q 2 = some s ∧ f1 = .nilIface ∧ q1 = q + 2) ∨ (numAt t q 2 = none ∧ bad f1))
    (b1 : bad f1 → bad f2) (h2 : f1 = .nilIface → (numAt t q1 8 = some b ∧ f2 = .nilIface ∧ q2 = q1 + 8) ∨ (numAt t q1 8 = none ∧ bad f2))
    (b2 : bad f2 → bad f3) (h3 : f2 = .nilIface → (textAt t q2 = some x ∧ f3 = .nilIface ∧ q3 = q2 + 2 + x.size) ∨ (textAt t q2 = none ∧ bad f3)) :
    (voteAt t q = some ⟨s, b, x⟩ ∧ f3 = .nilIface ∧ q3 = q + 12 + x.size) ∨ (voteAt t q = none ∧ bad f3) := by
  unfold voteAt
  rcases h1 with ⟨n1, e1, rfl⟩ | ⟨n1, hb⟩
  · rw [n1]
    rcases h2 e1 with ⟨n2, e2, rfl⟩ | ⟨n2, hb⟩
    · rw [n2]
      rcases h3 e2 with ⟨n3, e3, rfl⟩ | ⟨n3, hb⟩
      · rw [show q + 10 = q + 2 + 8 by omega, n3]
        exact .inl ⟨rfl, e3, by omega⟩
      · rw [show q + 10 = q + 2 + 8 by omega, n3]
        exact .inr ⟨rfl, hb⟩
    · rw [n2]; exact .inr ⟨rfl, b2 hb⟩
  · rw [n1]; exact .inr ⟨rfl, b2 (b1 hb)⟩
/-- So far all is well: l was read, n votes are to come. -/
structure Well (t : ByteArray) (p : Int) (l : List V) (n q : Nat) (last : Int) : Prop where
  p1 : p ≤ 1099511627776
  last0 : -1 ≤ last
  last1 : last < 4096
  below : ∀ y ∈ l, y.s ≤ last
  all : parse t = (rd t p n q last).map fun l' => Acc.mk p (l ++ l')
theorem Well.none_ {t : ByteArray} {p last : Int} {l : List V} {n q : Nat} (h : Well t p l (n + 1) q last) (hv : voteAt t q = none) : parse t = none := by
  rw [h.all, rd, hv]; rfl
theorem Well.not {t : ByteArray} {p last : Int} {l : List V} {n q : Nat} {v : V} (h : Well t p l (n + 1) q last) (hv : voteAt t q = some v) (hm : ¬ may p last v) : parse t = none := by
  rw [h.all, rd, hv]
  simp only
  rw [if_neg hm]; rfl
theorem Well.more {t : ByteArray} {p last : Int} {l : List V} {n q : Nat} {v : V} (h : Well t p l (n + 1) q last) (hv : voteAt t q = some v) (hm : may p last v) : ins v l = l ++ [v] ∧ Well t p (l ++ [v]) n (q + 12 + v.x.size) v.s := by
  have h0 := h.last0
  have hm1 := hm.1
  refine ⟨ins_end fun u hu => by have := h.below u hu; omega, h.p1, by omega, hm.2.1, fun y hy => ?_, ?_⟩
  · rcases List.mem_append.1 hy with hy | hy
    · have := h.below y hy; omega
    · rw [List.mem_singleton.1 hy]; exact Int.le_refl _
  · rw [h.all, rd, hv]
    simp only
    rw [if_pos hm, Option.map_map]
    congr 1
    funext l'
    simp
theorem Well.end_ {t : ByteArray} {p last : Int} {l : List V} {q : Nat} (h : Well t p l 0 q last) : parse t = if q = t.size then some (Acc.mk p l) else none := by
  rw [h.all, rd]
  split <;> simp
end Go.Proofs.YtkcbmkedhipgeaaGreatDoor
