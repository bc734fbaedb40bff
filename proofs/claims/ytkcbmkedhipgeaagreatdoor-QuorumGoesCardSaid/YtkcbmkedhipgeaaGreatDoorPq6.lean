/-
  refusal, voteFor and the deferred closure of Propose (package quorum), by contracts.
-/
import Derived.Test.YtkcbmkedhipgeaaGreatDoorPq5
import Derived.Test.YtkcbmkedhipgeaaGreatDoorCall
import Derived.Laws.IdiomRangeMap
namespace Go.Proofs.YtkcbmkedhipgeaaGreatDoor
open Go.RowKit Go.ChangeMaps

/-- What refusal answers: what is wrong with a proposal, but for its round. -/
def refU (S : Gp) (i : Int) (x : ByteArray) : Int :=
  if S.has i = false then 3 else if (S.nd i.toNat).up = false then 70 else if 1024 < x.size then 11 else if 4096 ≤ (S.nd i.toNat).log.length then 2 else 0
theorem has_iff {S : Gp} {i : Int} : S.has i = true ↔ 0 ≤ i ∧ i < (S.n : Int) := by unfold Gp.has; simp
theorem has_nat {S : Gp} {i : Int} (h : S.has i = true) : ((i.toNat : Nat) : Int) = i ∧ i.toNat < S.n := by
  obtain ⟨h1, h2⟩ := has_iff.1 h
  omega
set_option maxRecDepth 100000 in
set_option maxHeartbeats 2000000 in
theorem refusal_any {w : World} {g : Nat} {S : Gp} {P : Pl} (h : PG w g S P) (i : Int) (x : ByteArray) :
    Calls Tryz.prog 35 #[.pointer (some ⟨g, 0, none⟩), .int .i64 i, .string x] w fun e w' => e = .returned (.int .i64 (refU S i x)) ∧ w = w' := by
  have HH := Lib.hid (has_any h i)
  have c0 := h.c0
  unfold refU
  cases hh : S.has i with
  | false =>
    rw [hh] at HH
    rw [if_pos rfl]
    clear h c0
    go_enter Tryz.func35, Tryz.ntmps35
    go_wp2_with (go_at_call 28; (with_reducible refine HH.out.mono ?_); rintro e w2 ⟨rfl, rfl⟩)
    go_ret
    exact ⟨rfl, rfl⟩
  | true =>
    rw [hh] at HH
    rw [if_neg (by decide)]
    obtain ⟨e1, e2⟩ := has_nat hh
    obtain ⟨hi0, hin⟩ := has_iff.1 hh
    generalize hk : i.toNat = k at *
    subst e1
    have c1 := h.nodeAt e2
    have hN := h.nd k e2
    have c2 := hN.c2
    have HU := Lib.hid (isUp_any hN)
    obtain ⟨A, c, hv, -⟩ := hN.log.form
    rw [hv] at c2
    clear h hN hv hh hk
    cases hu : (S.nd k).up with
    | false =>
      rw [hu] at HU
      rw [if_pos rfl]
      go_enter Tryz.func35, Tryz.ntmps35
      go_wp2_with (first
        | (go_at_call 28; (with_reducible refine HH.out.mono ?_); rintro e w2 ⟨rfl, rfl⟩)
        | (go_at_call 33; (with_reducible refine HU.out.mono ?_); rintro e w2 ⟨rfl, rfl⟩)
        | fail)
      go_ret
      exact ⟨rfl, rfl⟩
    | true =>
      rw [hu] at HU
      rw [if_neg (by decide)]
      by_cases hx : 1024 < x.size
      · rw [if_pos hx]
        have hxI : (1024 : Int) < (x.size : Int) := by omega
        go_enter Tryz.func35, Tryz.ntmps35
        go_wp2_with (first
          | (go_at_call 28; (with_reducible refine HH.out.mono ?_); rintro e w2 ⟨rfl, rfl⟩)
          | (go_at_call 33; (with_reducible refine HU.out.mono ?_); rintro e w2 ⟨rfl, rfl⟩)
          | fail)
        go_ret
        exact ⟨rfl, rfl⟩
      · rw [if_neg hx]
        have hxI : ¬ (1024 : Int) < (x.size : Int) := by omega
        by_cases hl : 4096 ≤ (S.nd k).log.length
        · rw [if_pos hl]
          have hlI : (4096 : Int) ≤ ((S.nd k).log.length : Int) := by omega
          go_enter Tryz.func35, Tryz.ntmps35
          go_wp2_with (first
            | (go_at_call 28; (with_reducible refine HH.out.mono ?_); rintro e w2 ⟨rfl, rfl⟩)
            | (go_at_call 33; (with_reducible refine HU.out.mono ?_); rintro e w2 ⟨rfl, rfl⟩)
            | fail)
          go_ret
          exact ⟨rfl, rfl⟩
        · rw [if_neg hl]
          have hlI : ¬ (4096 : Int) ≤ ((S.nd k).log.length : Int) := by omega
          go_enter Tryz.func35, Tryz.ntmps35
          go_wp2_with (first
            | (go_at_call 28; (with_reducible refine HH.out.mono ?_); rintro e w2 ⟨rfl, rfl⟩)
            | (go_at_call 33; (with_reducible refine HU.out.mono ?_); rintro e w2 ⟨rfl, rfl⟩)
            | fail)
          go_ret
          exact ⟨rfl, rfl⟩

set_option maxRecDepth 100000 in
set_option maxHeartbeats 2000000 in
theorem voteFor_any {w : World} {base : Nat} {tv : Value} {T : List (List V)} (h : Tld 75 90 w base tv T) (hT : T.length ≤ 5) (hl : ∀ l ∈ T, l.length ≤ 100000) (sl b : Int) (x : ByteArray) (hx : x.size ≤ 1024) :
    Calls Tryz.prog 42 #[.int .i64 sl, .int .i64 b, .string x, tv] w fun e w' => e = .returned (⟨sl, b, valOf T sl x⟩ : V).val ∧ Below w.heap.size w w' := by
  have hb1 : Below w.heap.size w (w.alloc (.cells #[.int .i64 0, .int .i64 0, .string ⟨#[]⟩] 75)) := below_row0 _ _
  obtain ⟨A, c, B, C, rfl, hS⟩ := (h.below hb1).sets hl
  have hC := choose_any (c := c) sl _ hS (by omega)
  rw [cat_T] at hC
  have HB1 := Lib.hid hb1
  have HZ := Lib.hid (show AV 75 (w.alloc (.cells #[.int .i64 0, .int .i64 0, .string ⟨#[]⟩] 75)) w.heap.size V.zero from AV.fresh 75 w V.zero)
  clear h hS hb1
  have fin : ∀ (w3 : World) (y : ByteArray), AV 75 w3 w.heap.size V.zero → AV 75 (((w3.setCell ⟨w.heap.size, 0, none⟩ (.int .i64 sl)).setCell ⟨w.heap.size, 1, none⟩ (.int .i64 b)).setCell ⟨w.heap.size, 2, none⟩ (.string y)) w.heap.size ⟨sl, b, y⟩ := fun w3 y h => h.set ⟨sl, b, y⟩
  have HF := Lib.hid fin
  clear fin
  cases hch : cho T.flatten sl with
  | some v =>
    rw [hch] at hC
    have hval : valOf T sl x = v.x := by unfold valOf; rw [hch]
    rw [hval]
    have HC := Lib.hid hC
    clear hC hch hval
    obtain ⟨vs, vb, vx⟩ := v
    go_enter Tryz.func42, Tryz.ntmps42
    go_wp2_with fail
    go_at_call 59
    (with_reducible refine HC.out.mono ?_)
    rintro e w2 ⟨rfl, k1⟩
    have hz2 := (HZ.out.below k1).below (below_row0 w2 (.cells (⟨vs, vb, vx⟩ : V).cells 75))
    obtain ⟨z0, z1, z2⟩ := hz2.all
    have y0 := free_at hz2 0
    have y1 := free_at hz2 1
    have y2 := free_at hz2 2
    have K1 := Lib.hid k1
    have HZ2 := Lib.hid hz2
    clear k1 hz2
    go_wp2
    have hfin := HF.out _ vx HZ2.out
    clear z0 z1 z2 y0 y1 y2
    (try simp only [Exit.inBlock, Exit.then])
    refine bodyPost_ret (results_cell_row rfl _ _ w.heap.size 75 (⟨sl, b, vx⟩ : V).cells (0, 0) _ rfl hfin Tryz.underlying75 rfl (by kernel_rfl)) rfl ?_
    have hb := (HB1.out.trans (K1.out.mono HB1.out.size)).trans ((below_row0 w2 (.cells (⟨vs, vb, vx⟩ : V).cells 75)).mono (HB1.out.trans (K1.out.mono HB1.out.size)).size)
    exact ⟨rfl, ((hb.setCell (Nat.le_refl _) _).setCell (Nat.le_refl _) _).setCell (Nat.le_refl _) _⟩
  | none =>
    rw [hch] at hC
    have hval : valOf T sl x = x := by unfold valOf; rw [hch]
    rw [hval]
    have HC := Lib.hid hC
    have HCl := Lib.hid (fun W => clone_any x W (by omega))
    clear hC hch hval
    go_enter Tryz.func42, Tryz.ntmps42
    go_wp2_with (go_at_call 59; (with_reducible refine HC.out.mono ?_); rintro e w2 ⟨rfl, k1⟩; have K1 := Lib.hid k1; clear k1)
    go_at_call 60
    (with_reducible refine (HCl.out _).mono ?_)
    rintro e w3 ⟨rfl, k2⟩
    have hz := ((HZ.out.below K1.out).below (below_row0 w2 (.cells V.zero.cells 75))).below k2
    obtain ⟨z0, z1, z2⟩ := hz.all
    have y0 := free_at hz 0
    have y1 := free_at hz 1
    have y2 := free_at hz 2
    have K2 := Lib.hid k2
    have HZ2 := Lib.hid hz
    clear k2 hz
    go_wp2
    have hfin := HF.out _ x HZ2.out
    clear z0 z1 z2 y0 y1 y2
    (try simp only [Exit.inBlock, Exit.then])
    refine bodyPost_ret (results_cell_row rfl _ _ w.heap.size 75 (⟨sl, b, x⟩ : V).cells (0, 0) _ rfl hfin Tryz.underlying75 rfl (by kernel_rfl)) rfl ?_
    have hb := (HB1.out.trans (K1.out.mono HB1.out.size)).trans ((below_row0 w2 (.cells V.zero.cells 75)).mono (HB1.out.trans (K1.out.mono HB1.out.size)).size)
    have hb2 := hb.trans (K2.out.mono hb.size)
    exact ⟨rfl, ((hb2.setCell (Nat.le_refl _) _).setCell (Nat.le_refl _) _).setCell (Nat.le_refl _) _⟩
set_option maxRecDepth 100000 in
set_option maxHeartbeats 2000000 in
/-- The deferred closure: the round rises. -/
theorem raise_any {w : World} {bH bN nk : Nat} {cs : Array Value} {h : Int} (u : FrameMode) (hH : Bx w bH 3 (.int .i64 h)) (hN : Bx w bN 58 (.pointer (some ⟨nk, 0, none⟩))) (hk : w.heap[nk]? = some (.cells cs 62 (0, 0))) (hc : (cs[3]?).isSome = true) :
    CallsD Tryz.prog 37 #[.pointer (some ⟨bH, 0, none⟩), .pointer (some ⟨bN, 0, none⟩)] u w fun e u' w' => u' = u ∧ (e = .returned (.tuple #[]) ∧ w' = w.setCell ⟨nk, 3, none⟩ (.int .i64 (ownR h + 1))) := by
  have HO := Lib.hid (own_any h w)
  have c0 := hH.cell
  have c1 := hN.cell
  obtain ⟨x, hx⟩ := Option.isSome_iff_exists.1 hc
  have c2 : w.cell? ⟨nk, 3, none⟩ = some x := by rw [cell_at hk]; exact hx
  have c3 : w.frozen? ⟨nk, 3, none⟩ = false := free_at hk 3
  have hr : -1 ≤ ownR h ∧ ownR h ≤ 1099511627776 := by
    unfold ownR
    split
    · rename_i hb; obtain ⟨h1, h2⟩ := hb; omega
    · decide
  obtain ⟨r1, r2⟩ := hr
  clear hH hN hk hc hx
  generalize ownR h = r at HO r1 r2 ⊢
  go_enter_d Tryz.func37, Tryz.ntmps37
  go_wp2_with (go_at_call 38; (with_reducible refine HO.out.mono ?_); rintro e w2 ⟨rfl, rfl⟩)
  go_end0
  first | exact ⟨rfl, rfl, rfl⟩ | exact ⟨rfl, rfl⟩ | rfl
end Go.Proofs.YtkcbmkedhipgeaaGreatDoor
