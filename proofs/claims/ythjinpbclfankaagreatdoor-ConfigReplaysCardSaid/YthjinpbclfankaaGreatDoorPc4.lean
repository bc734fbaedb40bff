/-
  lowestBut, come, cut (package config), by contracts.
-/
import Derived.Test.YthjinpbclfankaaGreatDoorIns
import Derived.Deep.RegionWith
import Derived.Deep.RegionLaw
import Derived.BigRegion
import Derived.StillTailTactics
namespace Go.Proofs.YthjinpbclfankaaGreatDoor
open Go.RowKit

/-- A config of one's own in block b: its numbers, its parts in rows of one's own from block B on. -/
structure CBv (w : World) (B b : Nat) (c : Cf) (sv pv : Value) : Prop where
  row : w.heap[b]? = some (.cells #[.int .i64 c.e, sv, pv, .int .i64 c.t] 45 (0, 0))
  srv : OwnsI w B sv c.srv
  pts : OwnsP 85 w B pv c.pts
  lo : B ≤ w.heap.size
def CB (w : World) (B b : Nat) (c : Cf) : Prop := ∃ sv pv, CBv w B b c sv pv
theorem owns_type {w : World} {base e size n : Nat} {v : Value} {xs : List Value} (h : w.ownsRow base e size v n xs) {g : Nat} (hg : v.ownBlock = some g) : ∃ cur, w.heap[g]? = some (.cells cur e (0, 0)) := by
  rcases h.2 with ⟨rfl, _⟩ | ⟨g', cap, cur, rfl, _, hgg, _⟩
  · simp [Value.ownBlock] at hg
  · simp [Value.ownBlock] at hg; subst hg; exact ⟨cur, hgg⟩
theorem type_ne {w : World} {a b : Nat} {s t : TypeId} {cs ds : Array Value} {f g : Nat × Nat} (ha : w.heap[a]? = some (.cells cs s f)) (hb : w.heap[b]? = some (.cells ds t g)) (ht : s ≠ t) : a ≠ b := fun e => by
  subst e
  rw [ha] at hb
  simp only [Option.some.injEq, Obj.cells.injEq] at hb
  exact ht hb.2.1
section
variable {w w' : World} {B b : Nat} {c : Cf} {sv pv : Value}
theorem CBv.lt (h : CBv w B b c sv pv) : b < w.heap.size := lt_of h.row
theorem CBv.below (h : CBv w B b c sv pv) (hb : Below w.heap.size w w') : CBv w' B b c sv pv := ⟨(hb.block b h.lt).trans h.row, h.srv.below hb, h.pts.below hb, Nat.le_trans h.lo hb.size⟩
theorem CBv.cells (h : CBv w B b c sv pv) : w.cell? ⟨b, 0, none⟩ = some (.int .i64 c.e) ∧ w.cell? ⟨b, 1, none⟩ = some sv ∧ w.cell? ⟨b, 2, none⟩ = some pv ∧ w.cell? ⟨b, 3, none⟩ = some (.int .i64 c.t) := by
  have hc : ∀ j, w.cell? ⟨b, j, none⟩ = (#[Value.int .i64 c.e, sv, pv, .int .i64 c.t] : Array Value)[j]? := fun j => cell_of_row w b j _ _ _ h.row
  exact ⟨hc 0, hc 1, hc 2, hc 3⟩
theorem CBv.free (h : CBv w B b c sv pv) (j : Nat) : w.frozen? ⟨b, j, none⟩ = false := by unfold World.frozen?; simp only [h.row]; simp
theorem CBv.neS (h : CBv w B b c sv pv) : sv.ownBlock ≠ some b := fun e => by
  obtain ⟨cur, hc⟩ := owns_type h.srv e
  exact type_ne hc h.row (by decide) rfl
theorem CBv.neP (h : CBv w B b c sv pv) : pv.ownBlock ≠ some b := fun e => by
  obtain ⟨cur, hc⟩ := owns_type h.pts e
  exact type_ne hc h.row (by decide) rfl
theorem CBv.neSP (h : CBv w B b c sv pv) : ∀ k, sv.ownBlock = some k → pv.ownBlock ≠ some k := fun k e e' => by
  obtain ⟨cur, hc⟩ := owns_type h.srv e
  obtain ⟨cur', hc'⟩ := owns_type h.pts e'
  exact type_ne hc hc' (by decide) rfl
theorem heap_set_eq {w : World} {g k : Nat} (hne : k ≠ g) (j : Nat) (v : Value) : (w.setCell ⟨g, j, none⟩ v).heap[k]? = w.heap[k]? := heap_setCell_other w ⟨g, j, none⟩ k v hne
/-- Its numbers are others now, its parts as they were. -/
theorem CBv.setS {w1 : World} {sv' : Value} {l : List Int} (h : CBv w B b c sv pv) (hg : w.grownBy w1 sv.ownBlock) (ho : OwnsI w1 B sv' l) (hn : ∀ k, sv'.ownBlock = some k → sv.ownBlock = some k ∨ w.heap.size ≤ k) : CBv (w1.setCell ⟨b, 1, none⟩ sv') B b { c with srv := l } sv' pv := by
  have hb := h.lt
  have hr : w1.heap[b]? = _ := (hg.block b hb (fun e => h.neS e.symm)).trans h.row
  refine ⟨heap_setCell_same w1 b 1 _ _ sv' hr, owns_kept ho fun g hk => heap_set_eq (fun e => ?_) _ _, owns_kept h.pts fun g hk => (heap_set_eq (fun e => ?_) _ _).trans (hg.block g (h.pts.lt hk).2 (fun e => ?_)), by have h1 := hg.size; have h2 := h.lo; simp; omega⟩
  · subst e
    rcases hn g hk with k | k
    · exact h.neS k
    · omega
  · subst e; exact h.neP hk
  · exact h.neSP g e.symm hk
/-- Its parts are others now. -/
theorem CBv.setP {w1 : World} {pv' : Value} {l : List Pt} (h : CBv w B b c sv pv) (hg : Below w.heap.size w w1) (ho : OwnsP 85 w1 w.heap.size pv' l) : CBv (w1.setCell ⟨b, 2, none⟩ pv') B b { c with pts := l } sv pv' := by
  have hb := h.lt
  have hB := h.lo
  have hr : w1.heap[b]? = _ := (hg.block b hb).trans h.row
  refine ⟨heap_setCell_same w1 b 2 _ _ pv' hr, owns_kept h.srv fun g hk => (heap_set_eq (fun e => ?_) _ _).trans (hg.block g (h.srv.lt hk).2), owns_mono (owns_kept ho fun g hk => heap_set_eq (fun e => ?_) _ _) (by omega), by have h1 := hg.size; simp; omega⟩
  · subst e; exact h.neS hk
  · have := (OwnsP.lt ho hk).1; omega
theorem CBv.setE (h : CBv w B b c sv pv) (j : Nat) (x : Int) (c' : Cf) (hc : #[Value.int .i64 c'.e, sv, pv, .int .i64 c'.t] = (#[Value.int .i64 c.e, sv, pv, .int .i64 c.t] : Array Value).setIfInBounds j (.int .i64 x)) (hs : c'.srv = c.srv) (hp : c'.pts = c.pts) : CBv (w.setCell ⟨b, j, none⟩ (.int .i64 x)) B b c' sv pv := by
  refine ⟨by rw [hc]; exact heap_setCell_same w b j _ _ _ h.row, ?_, ?_, by simpa using h.lo⟩
  · rw [hs]
    exact owns_kept h.srv fun g hk => heap_set_eq (fun e => h.neS (by rw [hk, e])) _ _
  · rw [hp]
    exact owns_kept h.pts fun g hk => heap_set_eq (fun e => h.neP (by rw [hk, e])) _ _
theorem CBv.grown {w1 : World} (h : CBv w B b c sv pv) (hg : w.grownBy w1 sv.ownBlock) : w1.cell? ⟨b, 1, none⟩ = some sv ∧ w1.frozen? ⟨b, 1, none⟩ = false ∧ w1.cell? ⟨b, 2, none⟩ = some pv := by
  have hr : w1.heap[b]? = _ := (hg.block b h.lt (fun e => h.neS e.symm)).trans h.row
  exact ⟨cell_of_row w1 b 1 _ _ _ hr, by unfold World.frozen?; simp only [hr]; simp, cell_of_row w1 b 2 _ _ _ hr⟩
end

theorem lowest_any {w : World} {v : Value} {l : List Int} (h : InI w v l) (hl : 2 ≤ l.length) (o : Int) :
    Calls Tryz.prog 69 #[v, .int .i64 o] w fun e w' => e = .returned (.int .i64 (lowS l o)) ∧ w' = w := by
  obtain ⟨A, c, rfl, hc⟩ := h
  match l, hl with
  | x :: y :: l, _ =>
    obtain ⟨g, off, rfl, hg, h0⟩ := hc 0 x rfl
    obtain ⟨g', off', e, hg', h1⟩ := hc 1 y rfl
    simp only [Option.some.injEq, Addr.mk.injEq, and_true] at e
    obtain ⟨rfl, rfl⟩ := e
    rw [Nat.add_zero] at h0
    clear hc
    have hlen : (x :: y :: l).length = l.length + 2 := rfl
    show Calls _ _ _ w fun e w' => e = .returned (.int .i64 (if x ≠ o then x else y)) ∧ w' = w
    have hlI0 : (0 : Int) < ((x :: y :: l).length : Int) := by rw [hlen]; omega
    have hlI1 : (1 : Int) < ((x :: y :: l).length : Int) := by rw [hlen]; omega
    generalize (x :: y :: l).length = n at hlI0 hlI1 ⊢
    clear hlen
    by_cases hx : x = o
    · subst hx
      go_enter Tryz.func69, Tryz.ntmps69
      go_wp2
      go_ret
      exact ⟨rfl, rfl⟩
    · have e1 : (x != o) = true := by simpa using hx
      go_enter Tryz.func69, Tryz.ntmps69
      go_wp2
      go_ret
      exact ⟨rfl, rfl⟩

/-- Below B nothing has turned but block b. -/
structure Kp (B b : Nat) (w w' : World) : Prop where
  os : w'.os = w.os
  tape : w'.tape = w.tape
  output : w'.output = w.output
  size : w.heap.size ≤ w'.heap.size
  block : ∀ k, k < B → k ≠ b → w'.heap[k]? = w.heap[k]?
theorem Kp.of {B b : Nat} {w w' : World} (h : Below B w w') : Kp B b w w' := ⟨h.os, h.tape, h.output, h.size, fun k hk _ => h.block k hk⟩
theorem Kp.trans {B b : Nat} {w w1 w2 : World} (h : Kp B b w w1) (h' : Below B w1 w2) : Kp B b w w2 :=
  ⟨h'.os.trans h.os, h'.tape.trans h.tape, h'.output.trans h.output, Nat.le_trans h.size h'.size, fun k hk hne => (h'.block k hk).trans (h.block k hk hne)⟩
theorem Kp.setB {B b : Nat} {w w1 : World} (h : Kp B b w w1) (j : Nat) (v : Value) : Kp B b w (w1.setCell ⟨b, j, none⟩ v) :=
  ⟨h.os, h.tape, h.output, by simpa using h.size, fun k hk hne => (heap_set_eq hne _ _).trans (h.block k hk hne)⟩
theorem Kp.drew {B b : Nat} {w w1 : World} (h : Kp B b w w1) : Kp B b w w1.drew := ⟨h.os, h.tape, h.output, h.size, h.block⟩
theorem Kp.setCell {B b : Nat} {w w1 : World} (h : Kp B b w w1) {g j : Nat} (hg : B ≤ g) (v : Value) : Kp B b w (w1.setCell ⟨g, j, none⟩ v) :=
  ⟨h.os, h.tape, h.output, by simpa using h.size, fun k hk hne => (heap_set_eq (by omega) _ _).trans (h.block k hk hne)⟩
/-! ### come -/
theorem change1 {c : Cf} {o : Od} (hk : o.k = 1) : change c o = if 0 ≤ o.n ∧ o.n < 8 then (if o.n ∈ c.srv then (4, c) else (0, { c with srv := comeS c.srv o.n })) else (1, c) := by unfold change; rw [if_pos hk]
theorem search_drawn {w : World} {v : Value} {l : List Int} (h : InI w v l) (hne : l ≠ []) (hl : l.length ≤ 1000) (hs : srvOk (-1) l = true) (x : Int) (n : Nat) :
    Calls Tryz.prog 66 #[v, .int .i64 x] (w.drewN n) fun e w' => e = .returned (.tuple #[.int .i64 (posS l x : Nat), .bool (decide (x ∈ l))]) ∧ ∃ m, w' = w.drewN m := by
  refine (search_any (h.below (below_drewN (Below.refl _ _) n)) hne hl hs x).mono ?_
  rintro e w' ⟨rfl, q, rfl⟩
  refine ⟨rfl, n + q, ?_⟩
  unfold World.drewN
  rw [Nat.add_assoc]
set_option maxRecDepth 100000 in
set_option maxHeartbeats 2000000 in
theorem come_any {w : World} {B b : Nat} {c : Cf} (h : CB w B b c) (hB : B ≤ w.heap.size) (h2 : 2 ≤ c.srv.length) (hs : srvOk (-1) c.srv = true) (o : Od) (hk : o.k = 1) :
    Calls Tryz.prog 54 #[.pointer (some ⟨b, 0, none⟩), o.val] w fun e w' => e = .returned (.int .i64 (change c o).1) ∧ ((change c o).1 = 0 → CB w' B b (change c o).2) ∧ Kp B b w w' := by
  obtain ⟨sv, pv, h⟩ := h
  obtain ⟨A0, c0, hA0, -⟩ := h.srv.inI
  subst hA0
  rw [change1 hk]
  obtain ⟨ok, n, m, f, t⟩ := o
  obtain rfl : ok = 1 := hk
  show Calls _ _ #[_, .agg #[.int .i64 1, .int .i64 n, .int .i64 m, .int .i64 f, .int .i64 t]] w fun e w' => e = .returned (.int .i64 (if 0 ≤ n ∧ n < 8 then (if n ∈ c.srv then ((4 : Int), c) else (0, { c with srv := comeS c.srv n })) else (1, c)).1) ∧ ((if 0 ≤ n ∧ n < 8 then (if n ∈ c.srv then ((4 : Int), c) else (0, { c with srv := comeS c.srv n })) else (1, c)).1 = 0 → CB w' B b (if 0 ≤ n ∧ n < 8 then (if n ∈ c.srv then ((4 : Int), c) else (0, { c with srv := comeS c.srv n })) else (1, c)).2) ∧ Kp B b w w'
  have hb1 : Below w.heap.size w (w.alloc (.cells #[.int .i64 1, .int .i64 n, .int .i64 m, .int .i64 f, .int .i64 t] 26)) := (Below.refl _ _).alloc (Nat.le_refl _) _
  have HB := Lib.hid hb1
  have HN := Lib.hid (isNode_any n)
  have h1 := h.below hb1
  have hne : c.srv ≠ [] := fun e => by rw [e] at h2; simp at h2
  have hl8 := srvOk_len8 hs
  obtain ⟨k0, k1, k2, k3⟩ := h1.cells
  have H1 := Lib.hid h1
  have hblt := h.lt
  have HBb := Lib.hid (fun (w' : World) (hb : Below w.heap.size w w') => show Kp B b w w' from Kp.of (hb.mono hB))
  clear hb1 h k0 k2 k3
  by_cases hn : 0 ≤ n ∧ n < 8
  case neg =>
    have hd : decide (0 ≤ n ∧ n < 8) = false := decide_eq_false hn
    rw [if_neg hn]
    have HD := Lib.hid hd
    clear hd hn
    go_enter Tryz.func54, Tryz.ntmps54
    go_wp2_with (go_at_call 49; (with_reducible refine (HN.out _).mono ?_); rintro e w' ⟨rfl, rfl⟩; rw [HD.out])
    go_ret
    exact ⟨rfl, (fun h => by cases h), HBb.out _ HB.out⟩
  case pos =>
    have hd : decide (0 ≤ n ∧ n < 8) = true := decide_eq_true hn
    have HD := Lib.hid hd
    rw [if_pos hn]
    have HNn := Lib.hid hn
    clear hd hn
    have HSea := Lib.hid (search_drawn h1.srv.inI hne (by omega) hs n)
    by_cases hm : n ∈ c.srv
    case pos =>
      rw [if_pos hm]
      rw [decide_eq_true hm] at HSea
      clear hm
      go_enter Tryz.func54, Tryz.ntmps54
      go_wp2_with (first | (go_at_call 49; (with_reducible refine (HN.out _).mono ?_); rintro e w' ⟨rfl, rfl⟩; rw [HD.out]) | fail)
      go_quiet ((go_at_call 66; exact HSea.out _))
      go_wp2
      go_ret
      exact ⟨rfl, (fun h => by cases h), HBb.out _ (below_drewN HB.out _)⟩
    case neg =>
      rw [if_neg hm]
      rw [decide_eq_false hm] at HSea
      have HM := Lib.hid hm
      clear hm
      go_enter Tryz.func54, Tryz.ntmps54
      go_wp2_with (first | (go_at_call 49; (with_reducible refine (HN.out _).mono ?_); rintro e w' ⟨rfl, rfl⟩; rw [HD.out]) | fail)
      go_quiet ((go_at_call 66; exact HSea.out _))
      go_wp2_with fail
      have hbq := below_drewN HB.out nq
      have hq := H1.out.below (below_drewN (Below.refl _ _) nq)
      have ho1 : ((w.alloc (.cells #[.int .i64 1, .int .i64 n, .int .i64 m, .int .i64 f, .int .i64 t] 26)).drewN nq).cell? ⟨w.heap.size, 1, none⟩ = some (.int .i64 n) := by
        show (w.alloc _).cell? _ = _
        simp
      have hsz : w.heap.size < ((w.alloc (.cells #[.int .i64 1, .int .i64 n, .int .i64 m, .int .i64 f, .int .i64 t] 26)).drewN nq).heap.size := by
        show _ < (w.alloc _).heap.size
        simp
      generalize (w.alloc (.cells #[.int .i64 1, .int .i64 n, .int .i64 m, .int .i64 f, .int .i64 t] 26)).drewN nq = w1 at hbq hq ho1 hsz ⊢
      clear k1 HB H1 HSea
      have k1 := hq.cells.2.1
      have hbl1 := hq.lt
      have hba : Below w1.heap.size w1 ((w1.alloc (.cells #[.int .i64 n] 3)).drew) := ((Below.refl _ _).alloc (Nat.le_refl _) _).drew
      have hqa := hq.below hba
      have HIns := Lib.hid (insert_any (w := (w1.alloc (.cells #[.int .i64 n] 3)).drew) (vb := w1.heap.size) (x := n) hqa.srv hne (by omega) (posS_le c.srv n) (by have := hbq.size; have := hba.size; omega) (heap_alloc_new w1 _) (fun e => by have := (hq.srv.lt e).2; omega))
      have HQa := Lib.hid hqa
      have HBa := Lib.hid (hbq.trans (hba.mono hbq.size))
      clear hba hqa hbq
      go_region_with (go_at_call 67; refine HIns.out.mono ?_; rintro e w2 ⟨sv', rfl, o2, g2, n2⟩; (obtain ⟨A', n', c', hA'⟩ : ∃ A' n' c', sv' = .slice A' n' c' := by (obtain ⟨A', c', e, -⟩ := o2.inI); exact ⟨_, _, _, e⟩); subst hA'; (obtain ⟨z1, z2, -⟩ := HQa.out.grown g2); have O2 := Lib.hid o2; have G2 := Lib.hid g2; have N2 := Lib.hid n2; clear o2 g2 n2)
      all_goals
        go_wp2
        go_ret
        exact ⟨rfl, fun _ => ⟨_, _, CBv.setS HQa.out G2.out O2.out N2.out⟩, Kp.setB (Kp.of ((HBa.out.mono hB).grown G2.out (by have := HBa.out.size; omega) (fun k hk => (HQa.out.srv.lt hk).1))) 1 _⟩

/-! ### cut -/
theorem change4 {c : Cf} {o : Od} (hk : o.k = 4) : change c o = if 1 ≤ o.n ∧ o.n ≤ 8 then (0, { c with t := o.n }) else (1, c) := by
  unfold change; rw [if_neg (by omega), if_neg (by omega), if_neg (by omega), if_pos hk]
set_option maxRecDepth 100000 in
theorem cut_any {w : World} {B b : Nat} {c : Cf} (h : CB w B b c) (hB : B ≤ w.heap.size) (o : Od) (hk : o.k = 4) :
    Calls Tryz.prog 57 #[.pointer (some ⟨b, 0, none⟩), o.val] w fun e w' => e = .returned (.int .i64 (change c o).1) ∧ ((change c o).1 = 0 → CB w' B b (change c o).2) ∧ Kp B b w w' := by
  obtain ⟨sv, pv, h⟩ := h
  rw [change4 hk]
  obtain ⟨ok, n, m, f, t⟩ := o
  obtain rfl : ok = 4 := hk
  show Calls _ _ #[_, .agg #[.int .i64 4, .int .i64 n, .int .i64 m, .int .i64 f, .int .i64 t]] w fun e w' => e = .returned (.int .i64 (if 1 ≤ n ∧ n ≤ 8 then ((0 : Int), { c with t := n }) else (1, c)).1) ∧ ((if 1 ≤ n ∧ n ≤ 8 then ((0 : Int), { c with t := n }) else (1, c)).1 = 0 → CB w' B b (if 1 ≤ n ∧ n ≤ 8 then ((0 : Int), { c with t := n }) else (1, c)).2) ∧ Kp B b w w'
  have hb1 : Below w.heap.size w (w.alloc (.cells #[.int .i64 4, .int .i64 n, .int .i64 m, .int .i64 f, .int .i64 t] 26)) := (Below.refl _ _).alloc (Nat.le_refl _) _
  have HB := Lib.hid hb1
  have HN := Lib.hid (areTables_any n)
  have h1 := h.below hb1
  obtain ⟨-, -, -, k3⟩ := h1.cells
  have kf := h1.free 3
  have H1 := Lib.hid h1
  have H0 := Lib.hid h
  have hblt := h.lt
  clear hb1 h
  by_cases hn : 1 ≤ n ∧ n ≤ 8
  · have hd : decide (1 ≤ n ∧ n ≤ 8) = true := decide_eq_true hn
    rw [if_pos hn]
    have HD := Lib.hid hd
    clear hd hn
    go_enter Tryz.func57, Tryz.ntmps57
    go_wp2_with (go_at_call 30; (with_reducible refine (HN.out _).mono ?_); rintro e w' ⟨rfl, rfl⟩; rw [HD.out])
    go_ret
    exact ⟨rfl, fun _ => ⟨_, _, (H0.out.setE 3 n { c with t := n } rfl rfl rfl).below ((Below.refl _ _).alloc (Nat.le_refl _) _)⟩, (Kp.setB (Kp.of (Below.refl B w)) 3 _).trans ((Below.refl _ _).alloc (by simpa using hB) _)⟩
  · have hd : decide (1 ≤ n ∧ n ≤ 8) = false := decide_eq_false hn
    rw [if_neg hn]
    have HD := Lib.hid hd
    clear hd hn
    go_enter Tryz.func57, Tryz.ntmps57
    go_wp2_with (go_at_call 30; (with_reducible refine (HN.out _).mono ?_); rintro e w' ⟨rfl, rfl⟩; rw [HD.out])
    go_ret
    exact ⟨rfl, (fun h => by cases h), Kp.of (HB.out.mono hB)⟩
end Go.Proofs.YthjinpbclfankaaGreatDoor
