/-
  shown, after (the law's), by contracts.
-/
import Derived.Test.YthjinpbclfankaaGreatDoorPc7
namespace Go.Proofs.YthjinpbclfankaaGreatDoor
open Go.RowKit

/-! ### orders -/
def OAt (w : World) (g o : Nat) (x : Od) : Prop := w.cell? ⟨g, o, none⟩ = some (.int .i64 x.k) ∧ w.cell? ⟨g, o + 1, none⟩ = some (.int .i64 x.n) ∧ w.cell? ⟨g, o + 2, none⟩ = some (.int .i64 x.m) ∧ w.cell? ⟨g, o + 3, none⟩ = some (.int .i64 x.f) ∧ w.cell? ⟨g, o + 4, none⟩ = some (.int .i64 x.t)
theorem OAt.below {w w' : World} {g o N : Nat} {x : Od} (h : OAt w g o x) (hb : Below N w w') (hg : g < N) : OAt w' g o x :=
  ⟨(hb.cell (p := ⟨g, o, none⟩) hg).trans h.1, (hb.cell (p := ⟨g, o + 1, none⟩) hg).trans h.2.1, (hb.cell (p := ⟨g, o + 2, none⟩) hg).trans h.2.2.1, (hb.cell (p := ⟨g, o + 3, none⟩) hg).trans h.2.2.2.1, (hb.cell (p := ⟨g, o + 4, none⟩) hg).trans h.2.2.2.2⟩
/-- The slice v has the orders l. -/
def InO (w : World) (v : Value) (l : List Od) : Prop := ∃ A c, v = .slice A l.length c ∧ ∀ i x, l[i]? = some x → ∃ g o, A = some ⟨g, o, none⟩ ∧ g < w.heap.size ∧ OAt w g (o + i * 5) x
theorem InO.below {w w' : World} {v : Value} {l : List Od} (h : InO w v l) (hb : Below w.heap.size w w') : InO w' v l := by
  obtain ⟨A, c, rfl, hc⟩ := h
  refine ⟨A, c, rfl, fun i x hx => ?_⟩
  obtain ⟨g, o, e, hg, hx⟩ := hc i x hx
  exact ⟨g, o, e, Nat.lt_of_lt_of_le hg hb.size, hx.below hb hg⟩

/-! ### what the orders make -/
noncomputable def stp (c : Cf) (o : Od) : Cf := if (apl c o).2 = 0 then (apl c o).1 else c
noncomputable def aftN (l : List Od) (k : Nat) : Cf := (l.take k).foldl stp cf0
noncomputable def aft (l : List Od) : Cf := aftN l 60
theorem ptsOk_size {srv : List Int} {at_ till : Int} {l : List Pt} (h : ptsOk srv at_ till l = true) : (l.length : Int) ≤ till - at_ := by
  induction l generalizing at_ with
  | nil => simp [ptsOk] at h; subst h; simp
  | cons p l ih =>
    simp only [ptsOk, Bool.and_eq_true, decide_eq_true_eq] at h
    have := ih h.2
    have := h.1.2.1
    rw [List.length_cons]; omega
theorem Cf.ok.few {c : Cf} (h : c.ok) : c.srv.length ≤ 8 ∧ c.pts.length ≤ 256 ∧ 0 < c.pts.length := by
  refine ⟨srvOk_len8 h.2.2.1, by have := ptsOk_size h.2.2.2; omega, ?_⟩
  cases hp : c.pts with
  | nil => have := h.2.2.2; rw [hp] at this; simp [ptsOk] at this
  | cons p l => simp
theorem aftN_more {l : List Od} {k : Nat} {o : Od} (h : l[k]? = some o) : aftN l (k + 1) = stp (aftN l k) o := by
  unfold aftN; rw [List.take_add_one, h]; simp
theorem stp_ok {c : Cf} (h : c.ok) (o : Od) : (stp c o).ok ∧ c.e ≤ (stp c o).e ∧ (stp c o).e ≤ c.e + 1 := by
  unfold stp
  split
  · rename_i h0
    obtain ⟨a, b, -⟩ := apl_ok h o h0
    exact ⟨a, by omega, by omega⟩
  · exact ⟨h, by omega, by omega⟩
theorem aftN_ok (l : List Od) (k : Nat) : (aftN l k).ok ∧ 1 ≤ (aftN l k).e ∧ (aftN l k).e ≤ 1 + k := by
  induction k with
  | zero =>
    have e : aftN l 0 = cf0 := by unfold aftN; simp
    rw [e]
    exact ⟨cf0_ok, by decide, by decide⟩
  | succ k ih =>
    cases hx : l[k]? with
    | none =>
      have e : aftN l (k + 1) = aftN l k := by unfold aftN; rw [List.take_add_one, hx]; simp
      rw [e]; exact ⟨ih.1, ih.2.1, by omega⟩
    | some o =>
      rw [aftN_more hx]
      obtain ⟨a, b, c⟩ := stp_ok ih.1 o
      exact ⟨a, by omega, by omega⟩
theorem aft_ok (l : List Od) : (aft l).ok ∧ 1 ≤ (aft l).e ∧ (aft l).e ≤ 61 := by
  obtain ⟨a, b, c⟩ := aftN_ok l 60
  exact ⟨a, b, by unfold aft; omega⟩
theorem aft_all {l : List Od} {k : Nat} (h : k = l.length ∨ k = 60) (hk : k ≤ 60) : aftN l k = aft l := by
  rcases h with rfl | rfl
  · unfold aft aftN; rw [List.take_of_length_le (Nat.le_refl _), List.take_of_length_le hk]
  · rfl
theorem IC.off {w : World} {v : Value} {c : Cf} (h : IC w v c) (hok : c.ok) {b : Nat} (hb : w.heap.size ≤ b) : Off v b := by
  obtain ⟨sv, pv, rfl, ⟨A1, c1, rfl, h1⟩, ⟨A2, c2, rfl, h2⟩⟩ := h
  intro e s p t he
  simp only [Value.agg.injEq, Array.mk.injEq, List.cons.injEq, and_true] at he
  obtain ⟨-, rfl, rfl, -⟩ := he
  constructor
  · intro e
    obtain ⟨x, hx⟩ : ∃ x, c.srv[0]? = some x := ⟨_, List.getElem?_eq_getElem (by have := hok.2.1; omega)⟩
    obtain ⟨g, o, rfl, hg, -⟩ := h1 0 x hx
    simp only [Value.ownBlock, Option.some.injEq] at e
    omega
  · intro e
    obtain ⟨x, hx⟩ : ∃ x, c.pts[0]? = some x := ⟨_, List.getElem?_eq_getElem hok.few.2.2⟩
    obtain ⟨g, o, rfl, hg, -⟩ := h2 0 x hx
    simp only [Value.ownBlock, Option.some.injEq] at e
    omega
theorem new12b_any (w : World) : Calls Tryz.prog 14 #[] w fun e w' => ∃ v, e = .returned v ∧ IC w' v cf0 ∧ Below w.heap.size w w' ∧ ∀ b, b < w.heap.size → Off v b := by
  go_enter Tryz.func14, Tryz.ntmps14
  go_wp2_with fail
  go_returns
  refine ⟨_, rfl, ⟨_, _, rfl, ?_, ?_⟩, by go_grown, fun b hb e s p t he => ?_⟩
  · exact (OwnsI.inI (lit_ints _ (w.heap.size + 1) (by simp) [0, 1] _ rfl (by simp))).below ((Below.refl _ _).alloc (Nat.le_refl _) _)
  · exact OwnsP.inP (lit_part _ _ (w.heap.size + 1 + 1) (by simp) [⟨0, 256, 0, 1⟩] _ rfl (by simp))
  · simp only [Value.agg.injEq, Array.mk.injEq, List.cons.injEq, and_true] at he
    obtain ⟨-, rfl, rfl, -⟩ := he
    exact ⟨fun e => by simp [Value.ownBlock] at e; omega, fun e => by simp [Value.ownBlock] at e; omega⟩
theorem shown_any (w : World) : Calls Tryz.prog 4 #[] w fun e w' => e = .returned (.bool true) ∧ Below w.heap.size w w' := by
  have HN := Lib.hid (fun W : World => new12_any W)
  go_enter Tryz.func4, Tryz.ntmps4
  go_wp2_with fail
  go_at_call 14
  refine (HN.out w).mono ?_
  rintro e w1 ⟨v, rfl, hic, hb1⟩
  have HC := Lib.hid (check_any hic (by decide) (by decide))
  rw [chk_ok cf0_ok] at HC
  have HB1 := Lib.hid hb1
  clear hb1 hic
  go_wp2_with fail
  go_at_call 13
  refine HC.out.mono ?_
  rintro e w2 ⟨rfl, hb2⟩
  have HB2 := Lib.hid (HB1.out.trans (hb2.mono HB1.out.size))
  clear hb2
  go_wp2_with fail
  go_at_call 14
  refine (HN.out w2).mono ?_
  rintro e w3 ⟨v3, rfl, hic, hb3⟩
  have HB3 := Lib.hid (HB2.out.trans (hb3.mono HB2.out.size))
  obtain ⟨sv, pv, rfl, -⟩ := hic
  clear hb3
  have hfd : ∀ w : World, (Instr.field 45 (.agg #[.int .i64 1, sv, pv, .int .i64 cf0.t]) 0).run Tryz.prog w = .ok (.int .i64 1) w := fun _ => by kernel_rfl
  have e1 : cf0.e = 1 := rfl
  go_wp2_with fail
  go_ret
  exact ⟨rfl, HB3.out⟩
end Go.Proofs.YthjinpbclfankaaGreatDoor
