/-
  slices.IndexFunc at Alloc's closure; Alloc (package extent), by contracts.
-/
import Derived.Test.YtlffgfkcgldekaaTakes
namespace Go.Proofs.Ytlffgfkcgldekaa
open Go.RowKit

set_option maxRecDepth 100000 in
theorem wide_any (x : Rg) (k : Int) (c : Nat) (w : World) (hc : w.cell? ⟨c, 0, none⟩ = some (.int .i64 k)) (h0 : 0 ≤ x.f) (h1 : x.f < x.t) (h2 : x.t ≤ 4096) :
    Calls Try.prog 26 #[.agg #[.int .i64 x.f, .int .i64 x.t], .pointer (some ⟨c, 0, none⟩)] w fun e w' => e = .returned (.bool (wide k x)) ∧ Below w.heap.size w w' := by
  have hlt : c < w.heap.size := World.block_lt_of_cell? w _ hc
  obtain ⟨xf, xt⟩ := x
  replace h0 : 0 ≤ xf := h0
  replace h1 : xf < xt := h1
  replace h2 : xt ≤ 4096 := h2
  show Calls _ _ #[.agg #[.int .i64 xf, .int .i64 xt], _] w fun e w' => e = .returned (.bool (decide (k ≤ xt - xf))) ∧ Below w.heap.size w w'
  go_enter Try.func26, Try.ntmps26
  go_wp2
  go_ret
  exact ⟨rfl, (Below.refl _ _).alloc (Nat.le_refl _) _⟩

/-- What IndexFunc answers. -/
def Ix (l : List Rg) (k : Int) (j : Int) : Prop := (j = -1 ∧ ∀ x ∈ l, wide k x = false) ∨ ∃ a : Nat, ∃ x, j = (a : Int) ∧ l[a]? = some x ∧ wide k x = true ∧ ∀ b y, b < a → l[b]? = some y → wide k y = false
def Ans (l : List Rg) (k : Int) (e : Ending) : Prop := ∃ j : Int, e = .returned (.int .i64 j) ∧ Ix l k j
set_option maxRecDepth 100000 in
set_option maxHeartbeats 2000000 in
theorem index_any (l : List Rg) (k : Int) (g cap c : Nat) (w : World) (hl : Lst w g cap l) (hc : w.cell? ⟨c, 0, none⟩ = some (.int .i64 k)) (hb : ∀ x ∈ l, 0 ≤ x.f ∧ x.f < x.t ∧ x.t ≤ 4096) (hm : l.length ≤ 4096) :
    Calls Try.prog 25 #[.slice (some ⟨g, 0, none⟩) l.length cap, .func (.func 26) #[] #[.pointer (some ⟨c, 0, none⟩)]] w fun e w' => Ans l k e ∧ Below w.heap.size w w' := by
  have hcl : c < w.heap.size := World.block_lt_of_cell? w _ hc
  have hcap := hl.le
  have HT := Lib.hid (fun W (hW : Below w.heap.size w W) a x (hx : l[a]? = some x) => by
    obtain ⟨h0, h1, h2⟩ := hb x (List.mem_of_getElem? hx)
    exact wide_any x k c W ((hW.cell (p := ⟨c, 0, none⟩) hcl).trans hc) h0 h1 h2)
  have HA := Lib.hid (fun W (hW : Below w.heap.size w W) a x (hx : l[a]? = some x) => (hl.below hW).at_ a x hx)
  have HI := Lib.hid (fun (h : ∀ b y, b < l.length → l[b]? = some y → wide k y = false) => show Ix l k (-1) from .inl ⟨rfl, fun x hx => by obtain ⟨a, ha⟩ := List.getElem?_of_mem hx; exact h a x (List.getElem?_eq_some_iff.1 ha).1 ha⟩)
  have HJ := Lib.hid (fun (a : Nat) x (hx : l[a]? = some x) (hw : wide k x = true) h => show Ix l k (a : Int) from .inr ⟨a, x, rfl, hx, hw, h⟩)
  have HG := Lib.hid (fun a (ha : a < l.length) => ex_get ha)
  clear hl hc hb
  generalize hn : l.length = n at *
  clear hn
  go_enter Try.func25, Try.ntmps25
  go_wp2
  go_loopw [8] (fun iv wr => ∃ a : Nat, a ≤ n ∧ iv = .int .i64 a ∧ Below w.heap.size w wr ∧ Hid (∀ b y, b < a → l[b]? = some y → wide k y = false)) (fun iv _ => n - (intOf iv).toNat)
  case atStart => exact ⟨0, Nat.zero_le _, rfl, Below.refl _ _, fun b y hb => by omega⟩
  case round =>
    obtain ⟨a, ha, rfl, hB, HN⟩ := hrel
    have HB := Lib.hid hB
    clear hB
    by_cases hlt : a < n
    · have hlI : (a : Int) < (n : Int) := by omega
      have ha0 : (0 : Int) ≤ (a : Int) := by omega
      obtain ⟨x, hx⟩ := HG.out a hlt
      obtain ⟨c0, c1⟩ := HA.out _ HB.out a x hx
      have HX := Lib.hid hx
      have HC := Lib.hid (HT.out _ HB.out a x hx)
      clear hx
      cases hw : wide k x with
      | true =>
        rw [hw] at HC
        obtain ⟨xf, xt⟩ := x
        have HW := Lib.hid hw
        clear hw
        go_wp2_with (go_at_call 26; with_reducible refine HC.out.mono ?_; rintro e w1 ⟨rfl, hb⟩; have HB1 := Lib.hid (HB.out.trans (hb.mono HB.out.size)); clear hb)
        go_ret
        exact ⟨⟨_, rfl, HJ.out a _ HX.out HW.out HN.out⟩, HB1.out⟩
      | false =>
        rw [hw] at HC
        obtain ⟨xf, xt⟩ := x
        have HW := Lib.hid hw
        clear hw
        go_wp2_with (go_at_call 26; with_reducible refine HC.out.mono ?_; rintro e w1 ⟨rfl, hb⟩; have HB1 := Lib.hid (HB.out.trans (hb.mono HB.out.size)); clear hb)
        go_roundw
        case rel =>
          refine ⟨a + 1, by omega, by go_num, HB1.out, fun b y hb hy => ?_⟩
          by_cases e : b = a
          · subst e; rw [HX.out] at hy; cases hy; exact HW.out
          · exact HN.out b y (by omega) hy
        case measure => simp [intOf]; omega
    · obtain rfl : n = a := by omega
      have hlI : ¬ ((n : Int) < (n : Int)) := by omega
      go_wp2
      go_ret
      exact ⟨⟨_, rfl, HI.out HN.out⟩, HB.out⟩

theorem ix_none {s : St} {k : Int} (hk : 1 ≤ k) {j : Int} (h : Ix (runs s) k j) (hj : j < 0) : allocE s k = 2 ∧ allocR s k = ⟨0, 0⟩ ∧ allocS s k = s := by
  rcases h with ⟨-, h⟩ | ⟨a, x, rfl, -⟩
  · have hf : (runs s).find? (wide k) = none := List.find?_eq_none.2 fun x hx => by rw [h x hx]; simp
    unfold allocE allocR allocS
    rw [if_neg (by omega), if_neg (by omega), if_neg (by omega), hf]
    exact ⟨rfl, rfl, rfl⟩
  · omega
theorem ix_some {s : St} {k : Int} (hk : 1 ≤ k) {j : Int} (h : Ix (runs s) k j) (hj : ¬ j < 0) : ∃ a : Nat, ∃ x, j = (a : Int) ∧ (runs s)[a]? = some x ∧ k ≤ x.t - x.f ∧ allocE s k = 0 ∧ allocR s k = ⟨x.f, x.f + k⟩ ∧ allocS s k = set s ⟨x.f, x.f + k⟩ false := by
  rcases h with ⟨rfl, -⟩ | ⟨a, x, rfl, hx, hw, hno⟩
  · omega
  · refine ⟨a, x, rfl, hx, by simpa [wide] using hw, ?_⟩
    have hf : (runs s).find? (wide k) = some x := by
      rw [List.find?_eq_some_iff_append]
      refine ⟨hw, (runs s).take a, (runs s).drop (a + 1), ?_, fun y hy => ?_⟩
      · obtain ⟨ha, rfl⟩ := List.getElem?_eq_some_iff.1 hx
        rw [List.getElem_cons_drop, List.take_append_drop]
      · obtain ⟨b, hb, hyb⟩ := mem_take hy
        rw [hno b y hb hyb]; rfl
    unfold allocE allocR allocS
    rw [if_neg (by omega), if_neg (by omega), if_neg (by omega), hf]
    exact ⟨rfl, rfl, rfl⟩
theorem Goes.keeps {F : Nat → Prop} {w w' : World} {Q : (Nat → Prop) → Prop} (h : Goes F w w' Q) : Keeps F w w' := by obtain ⟨_, _, _, h⟩ := h; exact h

/-- A range that is all that a block has. -/
def Rb (w : World) (n : Nat) (x : Rg) : Prop := w.heap[n]? = some (.cells #[.int .i64 x.f, .int .i64 x.t] 30 (0, 0))
theorem Rb.cells {w : World} {n : Nat} {x : Rg} (h : Rb w n x) : w.cell? ⟨n, 0, none⟩ = some (.int .i64 x.f) ∧ w.cell? ⟨n, 1, none⟩ = some (.int .i64 x.t) ∧ w.frozen? ⟨n, 0, none⟩ = false ∧ w.frozen? ⟨n, 1, none⟩ = false := by
  have hc : ∀ j, w.cell? ⟨n, j, none⟩ = (#[Value.int .i64 x.f, .int .i64 x.t])[j]? := fun j => cell_of_row w n j _ _ _ h
  have hf : ∀ j, w.frozen? ⟨n, j, none⟩ = false := fun j => frozen_of_row w n j _ _ h
  exact ⟨hc 0, hc 1, hf 0, hf 1⟩
theorem Rb.lt {w : World} {n : Nat} {x : Rg} (h : Rb w n x) : n < w.heap.size := (Array.getElem?_eq_some_iff.1 h).1
theorem Rb.below {w w' : World} {n : Nat} {x : Rg} (h : Rb w n x) (hb : Below w.heap.size w w') : Rb w' n x := (hb.block n h.lt).trans h
theorem Rb.keeps {F : Nat → Prop} {w w' : World} {n : Nat} {x : Rg} (h : Rb w n x) (hk : Keeps F w w') (hn : ¬ F n) : Rb w' n x := (hk.block n h.lt hn).trans h
theorem Rb.new (w : World) (x : Rg) : Rb (w.alloc (.cells #[.int .i64 x.f, .int .i64 x.t] 30)) w.heap.size x := heap_alloc_new w _
theorem Goes.upd {F : Nat → Prop} {w W w' w'' : World} {b : Nat} {s : St} (h : Goes F W w' (PB w' b s)) (hW : Below w.heap.size w W) {n : Nat} (hn : w.heap.size ≤ n) (hn2 : n < W.heap.size) (hF : ∀ k, F k → k < w.heap.size) (hk : Keeps (· = n) w' w'') : Goes F w w'' (PB w'' b s) := by
  obtain ⟨F', h1, h2, h3⟩ := h
  refine ⟨F', h1.keeps hk (fun k hk' e => ?_), fun k hk' => ?_, ((Keeps.of_below hW).trans h3 (fun _ h => .inl h)).trans hk (fun k e => .inr (by omega))⟩
  · subst e
    rcases h2 _ hk' with h | h
    · have := hF _ h; omega
    · omega
  · rcases h2 _ hk' with h | h
    · exact .inl h
    · exact .inr (Nat.le_trans hW.size h)
theorem set2 (w : World) (n : Nat) (u v : Value) : Keeps (· = n) w ((w.setCell ⟨n, 0, none⟩ u).setCell ⟨n, 1, none⟩ v) := ((Keeps.refl (· = n) _).set (.inl rfl) _).set (.inl rfl) _

set_option maxRecDepth 100000 in
set_option maxHeartbeats 4000000 in
theorem alloc_any (b : Nat) (s : St) (F : Nat → Prop) (k : Int) (w : World) (hP : PB w b s F) (hG : Good s) :
    Calls Try.prog 13 #[.pointer (some ⟨b, 0, none⟩), .int .i64 k] w fun e w' => e = .returned (.tuple #[.agg #[.int .i64 (allocR s k).f, .int .i64 (allocR s k).t], .int .i64 (allocE s k)]) ∧ Goes F w w' (PB w' b (allocS s k)) := by
  obtain ⟨g, cap, h, rfl⟩ := hP.v
  have hB2 : Below w.heap.size w ((w.alloc (.cells #[.int .i64 k] 3)).alloc (.cells #[.int .i64 0, .int .i64 0] 30)) := ((Below.refl _ _).alloc (Nat.le_refl _) _).alloc (by simp) _
  have HB2 := Lib.hid hB2
  have HP := Lib.hid (fun W (hW : Below w.heap.size w W) => show Goes (fun k => k = b ∨ k = g) w W (PB W b s) from Goes.same (h.below hW).pb (Keeps.of_below hW))
  by_cases hk : k < 1
  · have e1 : allocE s k = 1 := by unfold allocE; rw [if_pos hk]
    have e2 : allocR s k = ⟨0, 0⟩ := by unfold allocR; rw [if_pos hk]
    have e3 : allocS s k = s := by unfold allocS; rw [if_pos hk]
    rw [e1, e2, e3]
    clear h hG hP e1 e2 e3
    go_enter Try.func13, Try.ntmps13
    go_wp2
    exact bodyPost_ret (v := .tuple #[.agg #[.int .i64 0, .int .i64 0], .int .i64 1]) (by simp [results, Try.results13, go_sem]) rfl ⟨rfl, HP.out _ HB2.out⟩
  · have hk1 : 1 ≤ k := by omega
    obtain ⟨c1, c2, -⟩ := (h.below hB2).cells
    have hkc : ((w.alloc (.cells #[.int .i64 k] 3)).alloc (.cells #[.int .i64 0, .int .i64 0] 30)).cell? ⟨w.heap.size, 0, none⟩ = some (.int .i64 k) := by rw [cell_of_row _ _ _ _ _ _ (heap_alloc2_old w _ _)]; rfl
    have HC := Lib.hid (fun W (hW : Below (w.heap.size + 2) ((w.alloc (.cells #[.int .i64 k] 3)).alloc (.cells #[.int .i64 0, .int .i64 0] 30)) W) => show Rb W (w.heap.size + 1) ⟨0, 0⟩ from (hW.block _ (by omega)).trans (heap_alloc2_new w _ _))
    have HKC := Lib.hid (fun W (hW : Below (w.heap.size + 2) ((w.alloc (.cells #[.int .i64 k] 3)).alloc (.cells #[.int .i64 0, .int .i64 0] 30)) W) => (hW.cell (p := ⟨w.heap.size, 0, none⟩) (by simp)).trans hkc)
    have HBB := Lib.hid (fun W (hW : Below (w.heap.size + 2) ((w.alloc (.cells #[.int .i64 k] 3)).alloc (.cells #[.int .i64 0, .int .i64 0] 30)) W) => hB2.trans (hW.mono (by omega)))
    have HI := index_any (runs s) k g cap w.heap.size _ (h.below hB2).l hkc (fun x hx => by have h1 := (runs_is s).bd x hx; have h2 := (runs_is s).sep.pos x hx; have := hG.hi; omega) (runs_length hG)
    rw [show ((w.alloc (.cells #[.int .i64 k] 3)).alloc (.cells #[.int .i64 0, .int .i64 0] 30)).heap.size = w.heap.size + 2 by simp] at HI
    have HI := Lib.hid HI
    have HN := Lib.hid (fun j hj hn => ix_none (s := s) hk1 (j := j) hj hn)
    have HS := Lib.hid (fun j hj hn => ix_some (s := s) hk1 (j := j) hj hn)
    clear hkc
    go_enter Try.func13, Try.ntmps13
    go_wp2_with fail
    go_at_call 25
    refine HI.out.mono ?_
    rintro e w1 ⟨⟨j, rfl, hj⟩, hb⟩
    have HJ := Lib.hid hj
    have HB1 := Lib.hid hb
    clear hj hb HI
    by_cases hj0 : j < 0
    · have E := Lib.hid (HN.out j HJ.out hj0)
      obtain ⟨r0, r1, f0, f1⟩ := (HC.out _ HB1.out).cells
      have HF := Lib.hid (fun w'' (hk : Keeps (· = w.heap.size + 1) w1 w'') => Goes.upd (F := fun k => k = b ∨ k = g) (w := w) (Goes.same (h.below (HBB.out _ HB1.out)).pb (Keeps.refl _ _)) (HBB.out _ HB1.out) (n := w.heap.size + 1) (by omega) (by have := (HC.out _ HB1.out).lt; omega) (fun k hk => by rcases hk with rfl | rfl; (exact h.lt); (exact h.l.lt)) hk)
      clear h hG hP hB2 c1 c2
      go_wp2
      exact bodyPost_ret (v := .tuple #[.agg #[.int .i64 0, .int .i64 0], .int .i64 2]) (by simp [results, Try.results13, go_sem, r0, r1]) rfl ⟨by rw [E.out.1, E.out.2.1], by rw [E.out.2.2]; exact HF.out _ (set2 _ _ _ _)⟩
    · obtain ⟨a, ⟨xf, xt⟩, rfl, hx, h1, e1, e2, e3⟩ := HS.out j HJ.out (by omega)
      replace h1 : k ≤ xt - xf := h1
      have hxb : 0 ≤ xf ∧ xt ≤ (s.n : Int) := (runs_is s).bd _ (List.mem_of_getElem? hx)
      have hn4 := hG.hi
      have E := Lib.hid (And.intro e1 (And.intro e2 e3))
      clear e1 e2 e3
      have HR1 := HC.out _ HB1.out
      have hP1 := h.below (HBB.out _ HB1.out)
      obtain ⟨-, d1, -⟩ := hP1.cells
      obtain ⟨a0, a1⟩ := hP1.l.at_ a _ hx
      replace a0 : w1.cell? ⟨g, a * 2, none⟩ = some (.int .i64 xf) := a0
      have dk := HKC.out _ HB1.out
      have hlt : a < (runs s).length := (List.getElem?_eq_some_iff.1 hx).1
      have hcap := hP1.l.le
      have hlI : (a : Int) < ((runs s).length : Int) := by omega
      have ha0 : (0 : Int) ≤ (a : Int) := by omega
      have HCO := Lib.hid (cutOut_any b s g cap a ⟨xf, xt⟩ ⟨xf, xf + k⟩ (w1.alloc (.cells #[.int .i64 xf, .int .i64 (xf + k)] 30)) (hP1.below ((Below.refl _ _).alloc (Nat.le_refl _) _)) hG hx (by show xf ≤ xf; omega) (by show xf < xf + k; omega) (by show xf + k ≤ xt; omega))
      have hbl := h.lt
      have hgl := h.l.lt
      have HW := Lib.hid (show Below w.heap.size w (w1.alloc (.cells #[.int .i64 xf, .int .i64 (xf + k)] 30)) from (HBB.out _ HB1.out).alloc (HBB.out _ HB1.out).size _)
      have hR3 : Rb (w1.alloc (.cells #[.int .i64 xf, .int .i64 (xf + k)] 30)) (w.heap.size + 1) ⟨0, 0⟩ := HR1.below ((Below.refl _ _).alloc (Nat.le_refl _) _)
      have hR4 : Rb (w1.alloc (.cells #[.int .i64 xf, .int .i64 (xf + k)] 30)) w1.heap.size ⟨xf, xf + k⟩ := Rb.new w1 ⟨xf, xf + k⟩
      have hs1 := HR1.lt
      have HK := Lib.hid (fun w4 (hk : Goes (fun k => k = b ∨ k = g) (w1.alloc (.cells #[.int .i64 xf, .int .i64 (xf + k)] 30)) w4 (PB w4 b (set s ⟨xf, xf + k⟩ false))) =>
        show (Rb w4 (w.heap.size + 1) ⟨0, 0⟩ ∧ Rb w4 w1.heap.size ⟨xf, xf + k⟩) ∧ ∀ w5, Keeps (· = w.heap.size + 1) w4 w5 → Goes (fun k => k = b ∨ k = g) w w5 (PB w5 b (set s ⟨xf, xf + k⟩ false)) from
        ⟨⟨hR3.keeps hk.keeps (by omega), hR4.keeps hk.keeps (by omega)⟩, fun w5 h5 => hk.upd HW.out (by omega) hR3.lt (fun k hk => by rcases hk with rfl | rfl; (exact hbl); (exact hgl)) h5⟩)
      clear h hG hP hB2 c1 c2 hP1 hx HR1 hR3 hR4
      generalize (runs s).length = n at *
      go_wp2_with (first
        | (go_at_call 27; (with_reducible refine HCO.out.mono ?_); rintro e w4 ⟨rfl, hk⟩; have HZ := Lib.hid (HK.out _ hk); (obtain ⟨x0, x1, x2, x3⟩ := (HK.out _ hk).1.1.cells); (obtain ⟨y0, y1, -, -⟩ := (HK.out _ hk).1.2.cells); clear hk)
        | fail)
      exact bodyPost_ret (v := .tuple #[.agg #[.int .i64 xf, .int .i64 (xf + k)], .int .i64 0]) (by simp [results, Try.results13, go_sem, x0, x1]) rfl ⟨by rw [E.out.1, E.out.2.1], by rw [E.out.2.2]; exact HZ.out.2 _ (set2 _ _ _ _)⟩
end Go.Proofs.Ytlffgfkcgldekaa
