/-
  Rows that are built one by one, and histories in which clocks go on alike: what ClockSame needs.
-/
import Derived.Test.YtdkkoeiceaolnaaParts
namespace Go.Proofs.Ytdkkoeiceaolnaa
open Go.RowKit

/-- Rows of three numbers, one behind the other, in a row of memory of its own. -/
def Built (base : Nat) (W : World) (g cap m : Nat) (Z : Nat → Nat → Int) : Prop :=
  ∃ f : Nat → Nat, W.ownsRow base 28 1 (.slice (some ⟨g, 0, none⟩) m cap) m ((List.range m).map fun r => .slice (some ⟨f r, 0, none⟩) 3 3) ∧
    ∀ r, r < m → W.rowIs (f r) 3 3 (intF (Z r)) ∧ base ≤ f r
theorem infoRows : (Try.prog.info? 28).map (fun i => (i.zero, i.size, i.bytes)) = some (some (.slice none 0 0), 1, 24) := by kernel_rfl
theorem built_new (w : World) (Z : Nat → Nat → Int) : Built w.heap.size (w.alloc (.cells #[] 28)) w.heap.size 0 0 Z :=
  ⟨fun _ => 0, ⟨rfl, .inr ⟨w.heap.size, 0, #[], rfl, Nat.le_refl _, heap_alloc_new w _, Nat.le_refl _, Nat.zero_le _, rfl, rfl⟩⟩, fun r hr => by omega⟩
theorem Built.cells {base : Nat} {W : World} {g cap m : Nat} {Z : Nat → Nat → Int} (h : Built base W g cap m Z) : ∃ cur fr, W.heap[g]? = some (.cells cur 28 fr) ∧ base ≤ g ∧ g < W.heap.size := by
  obtain ⟨f, h1, h2⟩ := h
  have hl := owns_lt h1
  rcases h1.2 with ⟨hn, _⟩ | ⟨g', cap', cur, hv, h3, h4, h5⟩
  · cases hn
  · cases hv
    exact ⟨cur, _, h4, hl⟩
theorem Built.kept {base : Nat} {W W' : World} {g cap m : Nat} {Z : Nat → Nat → Int} (h : Built base W g cap m Z) (hb : Below W.heap.size W W') : Built base W' g cap m Z := by
  obtain ⟨f, h1, h2⟩ := h
  exact ⟨f, owns_kept h1 (hb.block g (owns_lt h1).2), fun r hr => ⟨(h2 r hr).1.of_block (hb.block _ (h2 r hr).1.lt), (h2 r hr).2⟩⟩
theorem Built.congr {base : Nat} {W : World} {g cap m : Nat} {Z Z' : Nat → Nat → Int} (h : Built base W g cap m Z) (hZ : ∀ r, r < m → ∀ c, c < 3 → Z r c = Z' r c) : Built base W g cap m Z' := by
  obtain ⟨f, h1, h2⟩ := h
  exact ⟨f, h1, fun r hr => ⟨(h2 r hr).1.congr fun c hc => by unfold intF; rw [hZ r hr c hc], (h2 r hr).2⟩⟩
/-- One more row. -/
theorem built_app {base : Nat} {W W' : World} {g cap m g2 cap2 R : Nat} {Z : Nat → Nat → Int} {f : Nat → Nat} (h1 : W.ownsRow base 28 1 (.slice (some ⟨g, 0, none⟩) m cap) m ((List.range m).map fun r => .slice (some ⟨f r, 0, none⟩) 3 3))
    (h2 : ∀ r, r < m → W.rowIs (f r) 3 3 (intF (Z r)) ∧ base ≤ f r) (hr : W.rowIs R 3 3 (intF (Z m))) (hR : base ≤ R)
    (hown : W'.ownsRow base 28 1 (.slice (some ⟨g2, 0, none⟩) (m + 1) cap2) (m + 1) (((List.range m).map fun r => .slice (some ⟨f r, 0, none⟩) 3 3) ++ [.slice (some ⟨R, 0, none⟩) 3 3])) (hg : W.grownBy W' (some g)) : Built base W' g2 cap2 (m + 1) Z := by
  obtain ⟨cur, fr, hc, hb, hl⟩ := Built.cells ⟨f, h1, h2⟩
  have hne : ∀ b F, W.rowIs b 3 3 F → W'.rowIs b 3 3 F := fun b F hb' => hb'.of_block (hg.block b hb'.lt fun e => by
    cases e
    obtain ⟨cs, hcs, _⟩ := hb'
    rw [hc] at hcs
    cases hcs)
  refine ⟨fun r => if r = m then R else f r, ?_, fun r hr' => ?_⟩
  · have e : (List.range (m + 1)).map (fun r => Value.slice (some ⟨if r = m then R else f r, 0, none⟩) 3 3) = ((List.range m).map fun r => Value.slice (some ⟨f r, 0, none⟩) 3 3) ++ [.slice (some ⟨R, 0, none⟩) 3 3] := by
      rw [List.range_succ, List.map_append]
      congr 1
      · apply List.map_congr_left
        intro r hr'
        rw [List.mem_range] at hr'
        rw [if_neg (by omega)]
      · simp
    rw [e]; exact hown
  · by_cases hm : r = m
    · subst hm; simp only [if_true]; exact ⟨hne _ _ hr, hR⟩
    · simp only [hm, if_false]
      exact ⟨hne _ _ (h2 r (by omega)).1, (h2 r (by omega)).2⟩
theorem Built.hist {base : Nat} {W : World} {g cap m : Nat} {Z : Nat → Nat → Int} (h : Built base W g cap m Z) (hZ : ∀ r, r < m → ∀ c, c < 3 → 0 ≤ Z r c ∧ Z r c ≤ 1048576) (hO : ∀ r, r < m → ∀ c, 3 ≤ c → Z r c = 0) : Hist W (some ⟨g, 0, none⟩) m Z := by
  obtain ⟨f, h1, h2⟩ := h
  intro r hr
  rcases h1.2 with ⟨hn, _⟩ | ⟨g', cap', cur, hv, h3, h4, h5, h6, h7, h8⟩
  · cases hn
  · cases hv
    have hcell : W.cell? ⟨g, 0 + r, none⟩ = some (.slice (some ⟨f r, 0, none⟩) 3 3) := by
      have e : cur[r]? = some (.slice (some ⟨f r, 0, none⟩) 3 3) := by
        have := congrArg (fun l => l[r]?) h8
        simp only [Nat.mul_one, List.getElem?_take, if_pos hr, List.getElem?_map, List.getElem?_range hr, Option.map_some, Array.getElem?_toList] at this
        exact this
      simp [World.cell?, h4, e]
    exact ⟨_, _, _, _, _, Z r, rfl, hcell, by omega, fun c hc => ⟨_, _, rfl, by rw [Nat.zero_add]; exact (h2 r hr).1.cell hc⟩, fun c hc => (cl_id _ _ _ (hZ r hr c hc).1 (hZ r hr c hc).2).symm, fun c hc => hO r hr c hc⟩

/-- Clocks that go on alike; and a last row in which only the first one does. -/
def eqz (z : Nat → Int) (r c : Nat) : Int := if c < 3 then z r else 0
def oddz (z : Nat → Int) (n : Nat) (s : Int) (r c : Nat) : Int := if r < n then eqz z r c else if c = 0 then 1 + s else 0
theorem sm_eqz (z : Nat → Int) {i j : Nat} (hi : i < 3) (hj : j < 3) (m : Nat) : sm (eqz z) i m = sm (eqz z) j m := by
  induction m with
  | zero => rfl
  | succ m ih => simp only [sm, ih, eqz, hi, hj, if_true]
theorem sm_oddz (z : Nat → Int) (n : Nat) (s : Int) (c : Nat) {m : Nat} (hm : m ≤ n) : sm (oddz z n s) c m = sm (eqz z) c m := by
  induction m with
  | zero => rfl
  | succ m ih => simp only [sm, ih (by omega), oddz, if_pos (show m < n by omega)]
theorem fair_eqz {z : Nat → Int} {n k a b : Nat} {num slack : Int} (hz : TkOk (eqz z) n) (hk : k ≤ 3) (hn : n ≤ 31) (hab : a ≤ b) (hb : b < n) (h1 : 0 ≤ num) (h2 : 0 ≤ slack) : ¬ Unf (eqz z) k num slack a b := by
  rintro ⟨i, hi, j, hj, ho⟩
  unfold outr at ho
  have e : way (eqz z) a b i = way (eqz z) a b j := by unfold way; rw [sm_eqz z (show i < 3 by omega) (show j < 3 by omega), sm_eqz z (show i < 3 by omega) (show j < 3 by omega)]
  have hw := way_bound hz (c := j) hab hb hn
  rw [e, Int.add_mul] at ho
  have := Int.mul_nonneg h1 hw.1
  omega
theorem odd_last {z : Nat → Int} {n : Nat} {num slack : Int} (hz : TkOk (eqz z) n) (hn : n ≤ 30) (h1 : 0 ≤ num) (h2 : 0 ≤ slack) : fst? (oddz z n slack) (n + 1) 3 num slack = some (n, n) := by
  refine fst_some (pre := wins n) (x := (n, n)) ?_ (fun p hp hu => ?_) ⟨0, by omega, 1, by omega, ?_⟩
  · have := upto_pre (t := n) (k := 0 + 1) (m := n + 1) (by omega)
    rw [upto_succ (Nat.zero_le _), upto_zero] at this
    exact this
  · have hp' := mem_wins.1 hp
    refine fair_eqz (k := 3) hz (Nat.le_refl _) (by omega) hp'.1 hp'.2 h1 h2 (?_ : Unf (eqz z) 3 num slack p.1 p.2)
    obtain ⟨i, hi, j, hj, ho⟩ := hu
    refine ⟨i, hi, j, hj, ?_⟩
    unfold outr way at ho ⊢
    rw [sm_oddz _ _ _ _ (by omega), sm_oddz _ _ _ _ (by omega), sm_oddz _ _ _ _ (by omega), sm_oddz _ _ _ _ (by omega)] at ho
    exact ho
  · have w0 : way (oddz z n slack) n n 0 = 1 + slack := by unfold way; simp only [sm, oddz, Nat.lt_irrefl, if_false, if_true]; omega
    have w1 : way (oddz z n slack) n n 1 = 0 := by unfold way; simp only [sm, oddz, Nat.lt_irrefl, if_false]; simp
    unfold outr
    rw [w0, w1]
    simp only [Int.mul_zero]
    omega
theorem bts_ok {w : World} {A : Option Addr} {n : Nat} {z : Nat → Int} (h : Bts w A n z) : TkOk (eqz z) n := fun r hr c => by
  obtain ⟨_, _, _, _, h0, h1⟩ := h r hr
  unfold eqz
  split <;> omega
theorem eqz_hist {base : Nat} {w W : World} {A : Option Addr} {n g cap : Nat} {z : Nat → Int} (h : Bts w A n z) (hb : Built base W g cap n (eqz z)) : Hist W (some ⟨g, 0, none⟩) n (eqz z) :=
  hb.hist (fun r hr c _ => bts_ok h r hr c) (fun r _ c hc => by unfold eqz; rw [if_neg (by omega)])
theorem odd_hist {base : Nat} {w W : World} {A : Option Addr} {n g cap : Nat} {z : Nat → Int} {s : Int} (h : Bts w A n z) (s0 : 0 ≤ s) (s1 : s ≤ 255) (hb : Built base W g cap (n + 1) (oddz z n s)) : Hist W (some ⟨g, 0, none⟩) (n + 1) (oddz z n s) :=
  hb.hist (fun r _ c _ => by
    unfold oddz
    split
    · rename_i hr; exact bts_ok h r hr c
    · split <;> omega) (fun r _ c hc => by
    unfold oddz eqz
    rw [if_neg (show ¬ c < 3 by omega), if_neg (show ¬ c = 0 by omega)]
    split <;> rfl)
theorem cl_small {x : Int} (h0 : 0 ≤ x) (h1 : x ≤ 255) : cl x 0 1000 = x ∧ cl x 0 1048576 = x := ⟨cl_id _ _ _ h0 (by omega), cl_id _ _ _ h0 (by omega)⟩
theorem same_fair {base : Nat} {w W : World} {A : Option Addr} {n g cap : Nat} {z : Nat → Int} {num slack : Int} (h : Bts w A n z) (hn : n ≤ 25) (h1 : 0 ≤ num) (h1' : num ≤ 255) (h2 : 0 ≤ slack) (h2' : slack ≤ 255) (hb : Built base W g cap n (eqz z)) (k : Int) (k1 : 1 ≤ k) (k3 : k ≤ 3) :
    Calls Try.prog 17 #[.slice (some ⟨g, 0, none⟩) n cap, .int .i64 k, .int .i64 num, .int .i64 slack] W fun e w' => e = .returned (.tuple #[.int .i64 0, .int .i64 0, .bool true]) ∧ Below W.heap.size W w' := by
  refine (fair_any _ n cap _ k num slack W (eqz_hist h hb) (by omega)).mono fun e w' ⟨he, hb'⟩ => ⟨?_, hb'⟩
  rw [he, (cl_small h1 h1').1, (cl_small h2 h2').2, fst_none (fun p hp => fair_eqz (bts_ok h) (by rw [cl_id _ _ _ k1 (by omega)]; omega) (by omega) (mem_wins.1 hp).1 (mem_wins.1 hp).2 h1 h2)]
  rfl
theorem odd_unfair {base : Nat} {w W : World} {A : Option Addr} {n g cap : Nat} {z : Nat → Int} {num slack : Int} (h : Bts w A n z) (hn : n ≤ 25) (h1 : 0 ≤ num) (h1' : num ≤ 255) (h2 : 0 ≤ slack) (h2' : slack ≤ 255) (hb : Built base W g cap (n + 1) (oddz z n slack)) :
    Calls Try.prog 17 #[.slice (some ⟨g, 0, none⟩) (n + 1) cap, .int .i64 3, .int .i64 num, .int .i64 slack] W fun e w' => e = .returned (.tuple #[.int .i64 n, .int .i64 n, .bool false]) ∧ Below W.heap.size W w' := by
  refine (fair_any _ (n + 1) cap _ 3 num slack W (odd_hist h h2 h2' hb) (by omega)).mono fun e w' ⟨he, hb'⟩ => ⟨?_, hb'⟩
  rw [he, (cl_small h1 h1').1, (cl_small h2 h2').2, show (cl 3 1 8).toNat = 3 from rfl, odd_last (bts_ok h) (by omega) h1 h2]
  rfl
theorem odd_runfair {base : Nat} {w W : World} {A : Option Addr} {n g cap : Nat} {z : Nat → Int} {num slack : Int} (h : Bts w A n z) (hn : n ≤ 25) (h1 : 0 ≤ num) (h1' : num ≤ 255) (h2 : 0 ≤ slack) (h2' : slack ≤ 255) (hb : Built base W g cap (n + 1) (oddz z n slack)) :
    Calls Try.prog 18 #[.slice (some ⟨g, 0, none⟩) (n + 1) cap, .int .i64 3, .int .i64 num, .int .i64 slack] W fun e w' => e = .returned (.tuple #[.int .i64 n, .int .i64 n, .bool false]) ∧ W = w' := by
  refine (rfair_any _ (n + 1) cap _ 3 num slack W (odd_hist h h2 h2' hb) (by omega)).mono fun e w' ⟨he, hb'⟩ => ⟨?_, hb'⟩
  rw [he, (cl_small h1 h1').1, (cl_small h2 h2').2, show (cl 3 1 8).toNat = 3 from rfl, odd_last (bts_ok h) (by omega) h1 h2]
  rfl
theorem row_three (w : World) (z : Nat → Int) (x0 x1 x2 : Int) (h0 : x0 = z 0) (h1 : x1 = z 1) (h2 : x2 = z 2) : (w.alloc (.cells #[.int .i64 x0, .int .i64 x1, .int .i64 x2] 3)).rowIs w.heap.size 3 3 (intF z) := by
  subst h0 h1 h2
  exact World.rowIs_alloc w _ _ _ fun i hi => by match i, hi with | 0, _ | 1, _ | 2, _ => rfl
theorem built_next {base : Nat} {W w1 w2 : World} {g cap m g2 cap2 : Nat} {Z : Nat → Nat → Int} {f : Nat → Nat} {x0 x1 x2 : Int} {o2 : Obj} (hbase : base ≤ W.heap.size) (h1 : W.ownsRow base 28 1 (.slice (some ⟨g, 0, none⟩) m cap) m ((List.range m).map fun r => .slice (some ⟨f r, 0, none⟩) 3 3))
    (h2 : ∀ r, r < m → W.rowIs (f r) 3 3 (intF (Z r)) ∧ base ≤ f r) (hb : Below W.heap.size W w1) (e0 : x0 = Z m 0) (e1 : x1 = Z m 1) (e2 : x2 = Z m 2)
    (hown : w2.ownsRow base 28 1 (.slice (some ⟨g2, 0, none⟩) (m + 1) cap2) (m + 1) (((List.range m).map fun r => .slice (some ⟨f r, 0, none⟩) 3 3) ++ [.slice (some ⟨w1.heap.size, 0, none⟩) 3 3]))
    (hg : ((w1.alloc (.cells #[.int .i64 x0, .int .i64 x1, .int .i64 x2] 3)).alloc o2).grownBy w2 (some g)) : Built base w2 g2 cap2 (m + 1) Z ∧ (∀ w : World, w.heap.size = base → Below base w W → Below base w w2) := by
  have hB : Below W.heap.size W ((w1.alloc (.cells #[.int .i64 x0, .int .i64 x1, .int .i64 x2] 3)).alloc o2) := (hb.alloc hb.size _).alloc (Nat.le_trans hb.size (by simp)) _
  obtain ⟨f', k1, k2⟩ : ∃ f', f' = f ∧ (∀ r, r < m → ((w1.alloc (.cells #[.int .i64 x0, .int .i64 x1, .int .i64 x2] 3)).alloc o2).rowIs (f r) 3 3 (intF (Z r)) ∧ base ≤ f r) := ⟨f, rfl, fun r hr => ⟨(h2 r hr).1.of_block (hB.block _ (h2 r hr).1.lt), (h2 r hr).2⟩⟩
  refine ⟨built_app (owns_kept h1 (hB.block g (owns_lt h1).2)) k2 ((row_three w1 (Z m) x0 x1 x2 e0 e1 e2).alloc o2) (Nat.le_trans hbase hb.size) hown hg, fun w hw hwW => ?_⟩
  subst hw
  exact (below_then hwW hB).grown hg (Nat.le_trans hwW.size (Nat.le_trans hb.size (by simp; omega))) (fun k e => by cases e; exact (owns_lt h1).1)
end Go.Proofs.Ytdkkoeiceaolnaa
