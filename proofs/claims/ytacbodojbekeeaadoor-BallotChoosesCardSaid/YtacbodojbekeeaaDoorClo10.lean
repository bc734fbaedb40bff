/-
  The closures of read (package ballot), by contracts: keep, number, text.
-/
import Derived.Test.YtacbodojbekeeaaDoorRead10
namespace Go.Proofs.YtacbodojbekeeaaDoor
open Go.RowKit Go.Lib Go.PlainAid

/-- The first error, in block F. -/
def EC (w : World) (F : Nat) (v : Value) : Prop := w.heap[F]? = some (.cells #[v] 79 (0, 0))
theorem EC.lt {w : World} {F : Nat} {v : Value} (h : EC w F v) : F < w.heap.size := (Array.getElem?_eq_some_iff.1 h).1
theorem EC.cell {w : World} {F : Nat} {v : Value} (h : EC w F v) : w.cell? ⟨F, 0, none⟩ = some v := by
  unfold World.cell?; simp only [show w.heap[F]? = _ from h]; rfl
theorem EC.free {w : World} {F : Nat} {v : Value} (h : EC w F v) : w.frozen? ⟨F, 0, none⟩ = false := by
  unfold World.frozen?; simp only [show w.heap[F]? = _ from h]; simp
theorem EC.set {w : World} {F : Nat} {v : Value} (h : EC w F v) (u : Value) : EC (w.setCell ⟨F, 0, none⟩ u) F u := by
  unfold EC; rw [heap_setCell h]; rfl
theorem EC.of_block {w w' : World} {F : Nat} {v : Value} (h : EC w F v) (hb : w'.heap[F]? = w.heap[F]?) : EC w' F v := by unfold EC; rw [hb]; exact h
theorem EC.fb {w w' : World} {F b : Nat} {v : Value} (h : EC w F v) (hf : Fb b w w') (hne : F ≠ b) : EC w' F v := h.of_block (hf.block F h.lt hne (by simp))
theorem EC.below {w w' : World} {F : Nat} {v : Value} (h : EC w F v) (hb : Below w.heap.size w w') : EC w' F v := h.of_block (hb.block F h.lt)
/-- Nothing, or an error. -/
def isE (v : Value) : Prop := v = .nilIface ∨ ∃ ty x, v = .iface ty x
def bad (v : Value) : Prop := ∃ ty x, v = .iface ty x

/-- keep: the first error stays. -/
theorem keep_any (F : Nat) (v fv : Value) (w : World) (h : EC w F fv) (hv : isE v) (hfv : isE fv) :
    Calls Tryd.prog 58 #[v, .pointer (some ⟨F, 0, none⟩)] w fun e w' => e = .returned (.tuple #[]) ∧ ∃ fv', EC w' F fv' ∧ Fb F w w' ∧ isE fv' ∧ (bad fv → bad fv') ∧ (fv = .nilIface → fv' = v) := by
  have c0 := h.cell
  have f0 := h.free
  have HE := Lib.hid (h.set v)
  have HE0 := Lib.hid h
  have HV := Lib.hid hv
  clear h
  rcases hfv with rfl | ⟨ty, x, rfl⟩
  · rcases hv with rfl | ⟨ty, x, rfl⟩
    · go_enter Tryd.func58, Tryd.ntmps58
      go_wp2
      go_end0
      exact ⟨rfl, _, HE.out, Fb.same.set 0 _, HV.out, fun h => by (obtain ⟨_, _, h⟩ := h; cases h), fun _ => rfl⟩
    · go_enter Tryd.func58, Tryd.ntmps58
      go_wp2
      go_end0
      exact ⟨rfl, _, HE.out, Fb.same.set 0 _, HV.out, fun h => by (obtain ⟨_, _, h⟩ := h; cases h), fun _ => rfl⟩
  · go_enter Tryd.func58, Tryd.ntmps58
    go_wp2
    go_end0
    exact ⟨rfl, _, HE0.out, Fb.same, .inr ⟨_, _, rfl⟩, fun h => h, fun h => by cases h⟩

/-- What the closures are made of: the reader's block is told by block Rb, keep lies in block Kb, the first error in F. -/
structure Cl (w : World) (R Rb Kb F : Nat) : Prop where
  rb : w.cell? ⟨Rb, 0, none⟩ = some (.pointer (some ⟨R, 0, none⟩))
  kb : w.cell? ⟨Kb, 0, none⟩ = some (.func (.func 58) #[] #[.pointer (some ⟨F, 0, none⟩)])
theorem Cl.fb {w w' : World} {R Rb Kb F b : Nat} (h : Cl w R Rb Kb F) (hf : Fb b w w') (h1 : Rb ≠ b) (h2 : Kb ≠ b) : Cl w' R Rb Kb F := ⟨hf.cell h.rb h1, hf.cell h.kb h2⟩
theorem Cl.below {w w' : World} {R Rb Kb F : Nat} (h : Cl w R Rb Kb F) (hb : Below w.heap.size w w') : Cl w' R Rb Kb F := ⟨(hb.cell (World.block_lt_of_cell? w _ h.rb)).trans h.rb, (hb.cell (World.block_lt_of_cell? w _ h.kb)).trans h.kb⟩
theorem Rdr.fb {w w' : World} {R b a : Nat} {t : ByteArray} (h : Rdr w R t a) (hf : Fb b w w') (hne : R ≠ b) : Rdr w' R t a := by
  have hl := h.lt
  obtain ⟨h0, h1, h2⟩ := h
  exact ⟨hf.cell h0 hne, hf.cell h1 hne, by rw [World.frozen?_of_block (w := w) (a := ⟨R, 1, none⟩) (hf.block R hl hne (by simp))]; exact h2⟩
/-- Only the reader's block and the first error's have turned. -/
theorem two_fb {R F : Nat} {w w1 w2 : World} (h1 : Fb R w w1) (h2 : Fb F w1 w2) : Fr F (some R) w w2 :=
  ⟨h2.os.trans h1.os, h2.tape.trans h1.tape, h2.output.trans h1.output, Nat.le_trans h1.size h2.size, fun k hk ha hb => (h2.block k (Nat.lt_of_lt_of_le hk h1.size) ha (by simp)).trans (h1.block k hk (fun e => hb (by rw [e])) (by simp))⟩

set_option maxRecDepth 100000 in
set_option maxHeartbeats 1000000 in
theorem number_any (R Rb Kb F a : Nat) (t : ByteArray) (k : Nat) (hk : k = 2 ∨ k = 8) (fv : Value) (w : World) (hC : Cl w R Rb Kb F) (hE : EC w F fv) (hfv : isE fv) (hR : Rdr w R t a) (ha : a ≤ t.size) (hs : t.size ≤ 1000000000) (d1 : Rb ≠ R) (d2 : Kb ≠ R) (d3 : F ≠ R) :
    Calls Tryd.prog 59 #[.int .i64 (k : Int), .pointer (some ⟨Rb, 0, none⟩), .pointer (some ⟨Kb, 0, none⟩)] w fun e w' => ∃ n fv' a', e = .returned (.int .i64 n) ∧ n ≤ 9223372036854775807 ∧ EC w' F fv' ∧ isE fv' ∧ Rdr w' R t a' ∧ a' ≤ t.size ∧ Fr F (some R) w w' ∧
      (bad fv → bad fv') ∧ (fv = .nilIface → (numAt t a k = some n ∧ fv' = .nilIface ∧ a' = a + k) ∨ (numAt t a k = none ∧ bad fv')) := by
  have HN := Lib.hid (rnumAt R a t k hk w hR ha hs)
  have c1 := hC.rb
  have HC := Lib.hid hC
  have HE := Lib.hid hE
  have HF := Lib.hid hfv
  clear hC hR hE hfv hk
  go_enter Tryd.func59, Tryd.ntmps59
  go_wp2_with fail
  go_at_call 60
  refine HN.out.mono ?_
  rintro e w1 ⟨n, v, a', rfl, hr, ha', hf, hor⟩
  have hv : isE v := by
    rcases hor with ⟨-, h, -⟩ | ⟨-, -, -, h⟩
    · exact .inl h
    · exact .inr h
  have c2 := (HC.out.fb hf d1 d2).kb
  have HK := Lib.hid (keep_any F v fv w1 (HE.out.fb hf d3) hv HF.out)
  have HR := Lib.hid hr
  have HF1 := Lib.hid hf
  have HO := Lib.hid hor
  clear hr hf hor hv
  go_wp2_with fail
  go_at_call 58
  refine HK.out.mono ?_
  rintro e w2 ⟨rfl, fv', k1, k2, k3, k4, k5⟩
  have K1 := Lib.hid k1
  have K2 := Lib.hid k2
  have K3 := Lib.hid k3
  have K4 := Lib.hid k4
  have K5 := Lib.hid k5
  clear k1 k2 k3 k4 k5 c1 c2
  go_wp2
  go_ret
  refine ⟨n, fv', a', rfl, (by rcases HO.out with ⟨h1, -, -⟩ | ⟨-, h1, -⟩; exact (numAt_some h1).2.2.2; omega), K1.out, K3.out, HR.out.fb K2.out (Ne.symm d3), ha', two_fb HF1.out K2.out, K4.out, fun h => ?_⟩
  have e := K5.out h
  rcases HO.out with ⟨h1, h2, h3⟩ | ⟨h1, -, -, h2⟩
  · exact .inl ⟨h1, by rw [e, h2], h3⟩
  · exact .inr ⟨h1, by rw [e]; exact h2⟩
set_option maxRecDepth 100000 in
set_option maxHeartbeats 1000000 in
theorem text_any (R Rb Kb F a : Nat) (t : ByteArray) (fv : Value) (w : World) (hg : ErrType w) (hC : Cl w R Rb Kb F) (hE : EC w F fv) (hfv : isE fv) (hR : Rdr w R t a) (ha : a ≤ t.size) (hs : t.size ≤ 1000000000) (d1 : Rb ≠ R) (d2 : Kb ≠ R) (d3 : F ≠ R) :
    Calls Tryd.prog 61 #[.pointer (some ⟨Rb, 0, none⟩), .pointer (some ⟨Kb, 0, none⟩)] w fun e w' => ∃ x fv' a', e = .returned (.string x) ∧ EC w' F fv' ∧ isE fv' ∧ Rdr w' R t a' ∧ a' ≤ t.size ∧ Fr F (some R) w w' ∧
      (bad fv → bad fv') ∧ (fv = .nilIface → (textAt t a = some x ∧ fv' = .nilIface ∧ a' = a + 2 + x.size) ∨ (textAt t a = none ∧ bad fv')) := by
  have HN := Lib.hid (rtextAt R a t w hg hR ha hs)
  have c1 := hC.rb
  have HC := Lib.hid hC
  have HE := Lib.hid hE
  have HF := Lib.hid hfv
  clear hC hR hE hfv hg
  go_enter Tryd.func61, Tryd.ntmps61
  go_wp2_with fail
  go_at_call 62
  refine HN.out.mono ?_
  rintro e w1 ⟨n, v, a', rfl, hr, ha', hf, hor⟩
  have hv : isE v := by
    rcases hor with ⟨-, h, -⟩ | ⟨-, -, -, h⟩
    · exact .inl h
    · exact .inr h
  have c2 := (HC.out.fb hf d1 d2).kb
  have HK := Lib.hid (keep_any F v fv w1 (HE.out.fb hf d3) hv HF.out)
  have HR := Lib.hid hr
  have HF1 := Lib.hid hf
  have HO := Lib.hid hor
  clear hr hf hor hv
  go_wp2_with fail
  go_at_call 58
  refine HK.out.mono ?_
  rintro e w2 ⟨rfl, fv', k1, k2, k3, k4, k5⟩
  have K1 := Lib.hid k1
  have K2 := Lib.hid k2
  have K3 := Lib.hid k3
  have K4 := Lib.hid k4
  have K5 := Lib.hid k5
  clear k1 k2 k3 k4 k5 c1 c2
  go_wp2
  go_ret
  refine ⟨n, fv', a', rfl, K1.out, K3.out, HR.out.fb K2.out (Ne.symm d3), ha', two_fb HF1.out K2.out, K4.out, fun h => ?_⟩
  have e := K5.out h
  rcases HO.out with ⟨h1, h2, h3⟩ | ⟨h1, -, -, h2⟩
  · exact .inl ⟨h1, by rw [e, h2], h3⟩
  · exact .inr ⟨h1, by rw [e]; exact h2⟩
end Go.Proofs.YtacbodojbekeeaaDoor
