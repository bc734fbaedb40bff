/-
  place (package config), by a contract.
-/
import Derived.Test.YthjinpbclfankaaGreatDoorPc5
import Derived.Deep.RegionHeld
import Derived.Deep.RegionHeld3
import Derived.Deep.CutRange
namespace Go.Proofs.YthjinpbclfankaaGreatDoor
open Go.RowKit

theorem change3 {c : Cf} {o : Od} (hk : o.k = 3) : change c o = if o.f < 0 ∨ o.t > 256 ∨ o.f ≥ o.t then (71, c) else if o.n = o.m then (1, c) else if o.n ∈ c.srv ∧ o.m ∈ c.srv then (0, { c with pts := pts (placeC c.pts o) }) else (3, c) := by
  unfold change; rw [if_neg (by omega), if_neg (by omega), if_pos hk]
theorem contains_drawn {w : World} {v : Value} {l : List Int} (h : InI w v l) (hl : l.length ≤ 100000) (x : Int) (n : Nat) :
    Calls Tryz.prog 62 #[v, .int .i64 x] (w.drewN n) fun e w' => e = .returned (.bool (decide (x ∈ l))) ∧ ∃ m, w' = w.drewN m := by
  refine (contains_any (h.below (below_drewN (Below.refl _ _) n)) x hl).mono ?_
  rintro e w' ⟨rfl, rfl⟩
  exact ⟨rfl, n, rfl⟩
theorem al3 {w : World} {a : Addr} {v : Value} (hc : w.cell? a = some v) : (∀ o1, (w.alloc o1).cell? a = some v) ∧ (∀ o1 o2, ((w.alloc o1).alloc o2).cell? a = some v) ∧ (∀ o1 o2 o3, (((w.alloc o1).alloc o2).alloc o3).cell? a = some v) := by
  have key : ∀ (W : World) (o : Obj), W.cell? a = some v → (W.alloc o).cell? a = some v := fun W o h => by
    rw [World.cell?_alloc_some _ _ _ (by rw [h]; rfl)]; exact h
  exact ⟨fun o1 => key _ _ hc, fun o1 o2 => key _ _ (key _ _ hc), fun o1 o2 o3 => key _ _ (key _ _ (key _ _ hc))⟩
theorem cuts_len (o : Od) (l : List Pt) : (l.flatMap (cuts o)).length = 3 * l.length := by
  induction l with
  | nil => rfl
  | cons p l ih => rw [List.flatMap_cons, List.length_append, ih, List.length_cons]; show 3 + _ = _; omega
theorem flat_step {α β : Type} (f : α → List β) {l : List α} {k : Nat} {p : α} (h : l[k]? = some p) : (l.take (k + 1)).flatMap f = (l.take k).flatMap f ++ f p := by
  rw [List.take_add_one, h]; simp
theorem srcs_parts (e : TypeId) (w : World) (N : Nat) (hN : w.heap.size = N) (l : List Pt) (cs : Array Value) (hl : cs.toList = pflat l) : ∀ j u, (pflat l)[j]? = some u → (w.alloc (.cells cs e)).cell? ((⟨N, 0, none⟩ : Addr).add j) = some u := fun j u hu => by
  subst hN
  rw [← hl] at hu
  rw [Go.WideShapes.add_plain, Nat.zero_add, cell_of_row _ _ j cs e (0, 0) (heap_alloc_new w _)]
  rw [← Array.getElem?_toList]; exact hu
/-- Three parts in blocks of their own, new behind w. -/
structure Three (w wx : World) (x1 x2 x3 : Nat) (p1 p2 p3 : Pt) : Prop where
  un : Below w.heap.size w wx
  h1 : wx.heap[x1]? = some (.cells p1.cells 85 (0, 0))
  h2 : wx.heap[x2]? = some (.cells p2.cells 85 (0, 0))
  h3 : wx.heap[x3]? = some (.cells p3.cells 85 (0, 0))
  l1 : w.heap.size ≤ x1
  l2 : w.heap.size ≤ x2
  l3 : w.heap.size ≤ x3
  n12 : x1 ≠ x2
  n13 : x1 ≠ x3
  n23 : x2 ≠ x3
theorem cells_of {w : World} {b : Nat} {p : Pt} {t : TypeId} (h : w.heap[b]? = some (.cells p.cells t (0, 0))) : w.cell? ⟨b, 0, none⟩ = some (.int .i64 p.f) ∧ w.cell? ⟨b, 1, none⟩ = some (.int .i64 p.t) ∧ w.cell? ⟨b, 2, none⟩ = some (.int .i64 p.a) ∧ w.cell? ⟨b, 3, none⟩ = some (.int .i64 p.b) ∧ ∀ j, w.frozen? ⟨b, j, none⟩ = false := by
  have hc : ∀ j, w.cell? ⟨b, j, none⟩ = p.cells[j]? := fun j => cell_of_row w b j _ _ _ h
  exact ⟨hc 0, hc 1, hc 2, hc 3, fun j => by unfold World.frozen?; simp only [h]; simp⟩
theorem Three.set1 {w wx : World} {x1 x2 x3 j : Nat} {p1 p1' p2 p3 : Pt} {x : Int} (h : Three w wx x1 x2 x3 p1 p2 p3) (hp : p1'.cells = p1.cells.setIfInBounds j (.int .i64 x)) : Three w (wx.setCell ⟨x1, j, none⟩ (.int .i64 x)) x1 x2 x3 p1' p2 p3 :=
  ⟨h.un.setCell (p := ⟨x1, j, none⟩) h.l1 _, by rw [hp]; exact heap_setCell_same wx x1 j _ _ _ h.h1, (heap_set_eq h.n12.symm _ _).trans h.h2, (heap_set_eq h.n13.symm _ _).trans h.h3, h.l1, h.l2, h.l3, h.n12, h.n13, h.n23⟩
theorem Three.set2 {w wx : World} {x1 x2 x3 j : Nat} {p1 p2' p2 p3 : Pt} {x : Int} (h : Three w wx x1 x2 x3 p1 p2 p3) (hp : p2'.cells = p2.cells.setIfInBounds j (.int .i64 x)) : Three w (wx.setCell ⟨x2, j, none⟩ (.int .i64 x)) x1 x2 x3 p1 p2' p3 :=
  ⟨h.un.setCell (p := ⟨x2, j, none⟩) h.l2 _, (heap_set_eq h.n12 _ _).trans h.h1, by rw [hp]; exact heap_setCell_same wx x2 j _ _ _ h.h2, (heap_set_eq h.n23.symm _ _).trans h.h3, h.l1, h.l2, h.l3, h.n12, h.n13, h.n23⟩
theorem Three.set3 {w wx : World} {x1 x2 x3 j : Nat} {p1 p2 p3' p3 : Pt} {x : Int} (h : Three w wx x1 x2 x3 p1 p2 p3) (hp : p3'.cells = p3.cells.setIfInBounds j (.int .i64 x)) : Three w (wx.setCell ⟨x3, j, none⟩ (.int .i64 x)) x1 x2 x3 p1 p2 p3' :=
  ⟨h.un.setCell (p := ⟨x3, j, none⟩) h.l3 _, (heap_set_eq h.n13 _ _).trans h.h1, (heap_set_eq h.n23 _ _).trans h.h2, by rw [hp]; exact heap_setCell_same wx x3 j _ _ _ h.h3, h.l1, h.l2, h.l3, h.n12, h.n13, h.n23⟩
theorem Three.drew {w wx : World} {x1 x2 x3 : Nat} {p1 p2 p3 : Pt} (h : Three w wx x1 x2 x3 p1 p2 p3) : Three w wx.drew x1 x2 x3 p1 p2 p3 := ⟨h.un.drew, h.h1, h.h2, h.h3, h.l1, h.l2, h.l3, h.n12, h.n13, h.n23⟩
theorem three_new (w : World) (o1 o2 o3 : Obj) : (((w.alloc o1).alloc o2).alloc o3).heap[w.heap.size]? = some o1 ∧ (((w.alloc o1).alloc o2).alloc o3).heap[w.heap.size + 1]? = some o2 ∧ (((w.alloc o1).alloc o2).alloc o3).heap[w.heap.size + 1 + 1]? = some o3 := by
  refine ⟨?_, ?_, ?_⟩
  · rw [heap_alloc_old _ _ (by simp; omega), heap_alloc_old _ _ (by simp), heap_alloc_new]
  · rw [heap_alloc_old _ _ (by simp)]
    have := heap_alloc_new (w.alloc o1) o2
    rwa [World.size_alloc] at this
  · have := heap_alloc_new ((w.alloc o1).alloc o2) o3
    rwa [World.size_alloc, World.size_alloc] at this
theorem three_below (w : World) (o1 o2 o3 : Obj) : Below w.heap.size w (((w.alloc o1).alloc o2).alloc o3).drew := ((((Below.refl _ _).alloc (Nat.le_refl _) _).alloc (by simp) _).alloc (by simp; omega) _).drew
set_option maxRecDepth 100000 in
set_option maxHeartbeats 4000000 in
theorem place_yes {w : World} {B b : Nat} {c : Cf} {P : List Pt} {A0 A2 : Option Addr} {c0 c2 : Nat} (h : CBv w B b c (.slice A0 c.srv.length c0) (.slice A2 c.pts.length c2)) (hB : B ≤ w.heap.size) (hl8 : c.srv.length ≤ 8) (hpl : c.pts.length ≤ 10000) (n m f t : Int) (hPJ : f < t → join (c.pts.flatMap (cuts ⟨3, n, m, f, t⟩)) = P)
    (q1 : ¬ f < 0) (q2 : ¬ 256 < t) (q3 : ¬ t ≤ f) (q4 : ¬ n = m) (q5 : n ∈ c.srv) (q6 : m ∈ c.srv) :
    Calls Tryz.prog 56 #[.pointer (some ⟨b, 0, none⟩), .agg #[.int .i64 3, .int .i64 n, .int .i64 m, .int .i64 f, .int .i64 t]] w fun e w' => e = .returned (.int .i64 0) ∧ ((0 : Int) = 0 → CB w' B b { c with pts := P }) ∧ Kp B b w w' := by
  have hJP : join (c.pts.flatMap (cuts ⟨3, n, m, f, t⟩)) = P := hPJ (by omega)
  have HJP := Lib.hid hJP
  clear hJP hPJ
  obtain ⟨i0, hi0, hz0, hz1, hz2⟩ := info_parts infoP
  have hc2 : ∀ i p, c.pts[i]? = some p → ∃ g o, A2 = some ⟨g, o, none⟩ ∧ g < w.heap.size ∧ PAt w g (o + i * 4) p := by
    obtain ⟨A, c', e, hh⟩ := h.pts.inP
    simp only [Value.slice.injEq] at e
    obtain ⟨rfl, -, -⟩ := e
    exact hh
  have hb1 : Below w.heap.size w (w.alloc (.cells #[.int .i64 3, .int .i64 n, .int .i64 m, .int .i64 f, .int .i64 t] 26)) := (Below.refl _ _).alloc (Nat.le_refl _) _
  have HB := Lib.hid hb1
  have h1 := h.below hb1
  obtain ⟨k0, k1, k2, k3⟩ := h1.cells
  have H1 := Lib.hid h1
  have hblt := h.lt
  have HCo := Lib.hid (contains_drawn h1.srv.inI (by omega))
  clear hb1 h k0 k3
  have d1 : decide (f < 0) = false := decide_eq_false q1
  have d2 : decide (256 < t) = false := decide_eq_false q2
  have d3 : decide (t ≤ f) = false := decide_eq_false q3
  have d4 : (n == m) = false := by simpa using q4
  clear q1 q2 q3 q4
  have HCn := Lib.hid (HCo.out n)
  rw [decide_eq_true q5] at HCn
  have HCm := Lib.hid (HCo.out m)
  rw [decide_eq_true q6] at HCm
  clear q5 q6
  go_enter Tryz.func56, Tryz.ntmps56
  go_wp2_with fail
  go_quiet ((go_at_call 62; first | exact HCn.out _ | exact HCm.out _))
  go_wp2_with fail
  have hbq := below_drewN HB.out nq
  have hq1 := H1.out.below (below_drewN (Below.refl _ _) nq)
  have ho1 : ((w.alloc (.cells #[.int .i64 3, .int .i64 n, .int .i64 m, .int .i64 f, .int .i64 t] 26)).drewN nq).heap[w.heap.size]? = some (.cells #[.int .i64 3, .int .i64 n, .int .i64 m, .int .i64 f, .int .i64 t] 26 (0, 0)) := heap_alloc_new w _
  generalize (w.alloc (.cells #[.int .i64 3, .int .i64 n, .int .i64 m, .int .i64 f, .int .i64 t] 26)).drewN nq = w1 at hbq hq1 ho1 ⊢
  have HC2 := Lib.hid hc2
  have HQ1 := Lib.hid hq1
  have HO1 := Lib.hid ho1
  have HB1 := Lib.hid hbq
  clear k1 k2 hc2 hq1 ho1 hbq H1 HCn HCm HCo d1 d2 d3 d4
  go_loopw [5, 61] (fun v iv wr => ∃ (k : Nat) (Av : Option Addr) (nv cv : Nat), k ≤ c.pts.length ∧ iv = .int .i64 k ∧ v = .slice Av nv cv ∧ OwnsP 85 wr w1.heap.size (.slice Av nv cv) ((c.pts.take k).flatMap (cuts ⟨3, n, m, f, t⟩)) ∧ Below w1.heap.size w1 wr) (fun _ iv _ => c.pts.length - (intOf iv).toNat)
  case atStart => exact ⟨0, none, 0, 0, Nat.zero_le _, rfl, rfl, OwnsP.nil _ _ _, Below.refl _ _⟩
  case round =>
    obtain ⟨k, Av, nv, cv, hk, rfl, rfl, ho, hb⟩ := hrel
    by_cases hlt : k < c.pts.length
    · obtain ⟨p, hx⟩ : ∃ y, c.pts[k]? = some y := ⟨_, List.getElem?_eq_getElem hlt⟩
      obtain ⟨g, off, rfl, hg, hcl⟩ := HC2.out k p hx
      have hg1 : g < w1.heap.size := Nat.lt_of_lt_of_le hg (Nat.le_trans (by have := HB1.out.size; omega) (Nat.le_refl _))
      obtain ⟨c0', c1', c2', c3'⟩ := (hcl.below HB1.out hg).below hb hg1
      have hor := (hb.block _ (lt_of HO1.out)).trans HO1.out
      have e1 : wr.cell? ⟨w.heap.size, 1, none⟩ = some (.int .i64 n) := cell_of_row wr _ 1 _ _ _ hor
      have e2 : wr.cell? ⟨w.heap.size, 2, none⟩ = some (.int .i64 m) := cell_of_row wr _ 2 _ _ _ hor
      have e3 : wr.cell? ⟨w.heap.size, 3, none⟩ = some (.int .i64 f) := cell_of_row wr _ 3 _ _ _ hor
      have e4 : wr.cell? ⟨w.heap.size, 4, none⟩ = some (.int .i64 t) := cell_of_row wr _ 4 _ _ _ hor
      have hol := lt_of hor
      have hlI : (k : Int) < (c.pts.length : Int) := by omega
      have hkI : (0 : Int) ≤ (k : Int) := by omega
      obtain ⟨pf, pt, pa, pb⟩ := p
      replace c0' : wr.cell? ⟨g, off + k * 4, none⟩ = some (.int .i64 pf) := c0'
      replace c1' : wr.cell? ⟨g, off + k * 4 + 1, none⟩ = some (.int .i64 pt) := c1'
      replace c2' : wr.cell? ⟨g, off + k * 4 + 2, none⟩ = some (.int .i64 pa) := c2'
      replace c3' : wr.cell? ⟨g, off + k * 4 + 3, none⟩ = some (.int .i64 pb) := c3'
      have hglr : g < wr.heap.size := Nat.lt_of_lt_of_le hg1 hb.size
      have HO := Lib.hid ho
      have HBr := Lib.hid hb
      have HX := Lib.hid hx
      clear ho hb hx hcl hor hg hg1
      have hbp : Below wr.heap.size wr (wr.alloc (.cells #[.int .i64 pf, .int .i64 pt, .int .i64 pa, .int .i64 pb] 85)) := (Below.refl _ _).alloc (Nat.le_refl _) _
      obtain ⟨b0, b1, b2, b3⟩ := cells4 wr wr.heap.size rfl (.int .i64 pf) (.int .i64 pt) (.int .i64 pa) (.int .i64 pb) 85
      have f1 := (hbp.cell (p := ⟨w.heap.size, 1, none⟩) hol).trans e1
      have f2 := (hbp.cell (p := ⟨w.heap.size, 2, none⟩) hol).trans e2
      have f3 := (hbp.cell (p := ⟨w.heap.size, 3, none⟩) hol).trans e3
      have f4 := (hbp.cell (p := ⟨w.heap.size, 4, none⟩) hol).trans e4
      have hszp : (wr.alloc (.cells #[.int .i64 pf, .int .i64 pt, .int .i64 pa, .int .i64 pb] 85)).heap.size = wr.heap.size + 1 := World.size_alloc _ _
      have HOp := Lib.hid (HO.out.below hbp)
      have HBp := Lib.hid (HBr.out.trans (hbp.mono HBr.out.size))
      have HS0 := Lib.hid HBr.out.size
      go_wp2_with fail
      clear HO HBr c0' c1' c2' c3' e1 e2 e3 e4 hbp hglr
      generalize wr.alloc (.cells #[.int .i64 pf, .int .i64 pt, .int .i64 pa, .int .i64 pb] 85) = wp at b0 b1 b2 b3 f1 f2 f3 f4 HOp HBp hszp ⊢
      have HSz := Lib.hid hszp
      obtain ⟨Np, hNp⟩ : ∃ Np, wp.heap.size = Np := ⟨_, rfl⟩
      have HNp := Lib.hid hNp
      clear hszp hNp
      go_cut [8, 9, 10] from 65 to 73 (fun v8 v9 v10 wx => ∃ x1 x2 x3 : Nat, v8 = .pointer (some ⟨x1, 0, none⟩) ∧ v9 = .pointer (some ⟨x2, 0, none⟩) ∧ v10 = .pointer (some ⟨x3, 0, none⟩) ∧ Three wp wx x1 x2 x3 ⟨pf, pt, pa, pb⟩ ⟨pf, pt, n, m⟩ ⟨pf, pt, pa, pb⟩)
      case first =>
        obtain ⟨-, -, ff13⟩ := al3 f1
        obtain ⟨-, -, ff23⟩ := al3 f2
        obtain ⟨-, -, bb03⟩ := al3 b0
        obtain ⟨-, -, bb13⟩ := al3 b1
        obtain ⟨-, -, bb23⟩ := al3 b2
        obtain ⟨-, -, bb33⟩ := al3 b3
        go_region_held (fun w' => w'.cell? ⟨wr.heap.size, 0, none⟩ = some (.int .i64 pf) ∧ w'.cell? ⟨wr.heap.size, 1, none⟩ = some (.int .i64 pt) ∧ w'.cell? ⟨wr.heap.size, 2, none⟩ = some (.int .i64 pa) ∧ w'.cell? ⟨wr.heap.size, 3, none⟩ = some (.int .i64 pb) ∧ w'.cell? ⟨w.heap.size, 1, none⟩ = some (.int .i64 n) ∧ w'.cell? ⟨w.heap.size, 2, none⟩ = some (.int .i64 m)) (go_keep) (fail)
        all_goals
          go_wp2_with fail
          go_meet
          exact ⟨_, _, _, rfl, rfl, rfl, three_below _ _ _ _, by first | exact (three_new _ _ _ _).1 | exact (three_new _ _ _ _).2.1 | exact (three_new _ _ _ _).2.2, by first | exact (three_new _ _ _ _).1 | exact (three_new _ _ _ _).2.1 | exact (three_new _ _ _ _).2.2, by first | exact (three_new _ _ _ _).1 | exact (three_new _ _ _ _).2.1 | exact (three_new _ _ _ _).2.2, by omega, by omega, by omega, by omega, by omega, by omega⟩
      case rest =>
        obtain ⟨x1, x2, x3, rfl, rfl, rfl, hT⟩ := hcut
        have hwo : w.heap.size < wp.heap.size := by rw [HNp.out, ← HNp.out, HSz.out]; omega
        have hro : wr.heap.size < wp.heap.size := by rw [HSz.out]; omega
        have old : ∀ {W : World} {a : Addr} {v : Value}, Below wp.heap.size wp W → a.block < wp.heap.size → wp.cell? a = some v → W.cell? a = some v := fun hb ha hc => (hb.cell ha).trans hc
        have HOld := Lib.hid (fun (W : World) (hb : Below wp.heap.size wp W) => show (W.cell? ⟨wr.heap.size, 0, none⟩ = some (.int .i64 pf) ∧ W.cell? ⟨wr.heap.size, 1, none⟩ = some (.int .i64 pt)) ∧ W.cell? ⟨w.heap.size, 3, none⟩ = some (.int .i64 f) ∧ W.cell? ⟨w.heap.size, 4, none⟩ = some (.int .i64 t) from ⟨⟨old hb hro b0, old hb hro b1⟩, old hb hwo f3, old hb hwo f4⟩)
        have HWo := Lib.hid hwo
        clear old b0 b1 b2 b3 f1 f2 f3 f4 hwo hro
        obtain ⟨⟨g0, g1⟩, g3, g4⟩ := HOld.out _ hT.un
        obtain ⟨u0, u1, u2, u3, uf⟩ := cells_of hT.h1
        have uf1 := uf 1
        have HT := Lib.hid hT
        clear hT uf u0 u2 u3
        go_wp2_with fail
        have ht1 : Three wp (wc.setCell ⟨x1, 1, none⟩ (.int .i64 (min pt f))) x1 x2 x3 ⟨pf, min pt f, pa, pb⟩ ⟨pf, pt, n, m⟩ ⟨pf, pt, pa, pb⟩ := HT.out.set1 (j := 1) rfl
        generalize wc.setCell ⟨x1, 1, none⟩ (.int .i64 (min pt f)) = wd at ht1 ⊢
        clear HT u1 uf1 g0 g1 g3 g4
        obtain ⟨⟨g0, g1⟩, g3, g4⟩ := HOld.out _ ht1.un
        obtain ⟨u0, u1, -, -, uf⟩ := cells_of ht1.h2
        have uf0 := uf 0
        have uf1 := uf 1
        have HN2 := Lib.hid (show wr.heap.size ≠ x2 ∧ w.heap.size ≠ x2 from ⟨fun e => by have := ht1.l2; have := HSz.out; omega, fun e => by have := ht1.l2; have := HWo.out; omega⟩)
        have hn1 := HN2.out.1
        have hn2 := HN2.out.2
        have hn3 := hn1.symm
        have hn4 := hn2.symm
        have HT1 := Lib.hid ht1
        clear ht1 uf
        go_cut [] from 83 to 100 (fun wx => Three wp wx x1 x2 x3 ⟨pf, min pt f, pa, pb⟩ ⟨max pf f, min pt t, n, m⟩ ⟨pf, pt, pa, pb⟩)
        case first =>
          go_region_held (fun w' => w'.cell? ⟨wr.heap.size, 0, none⟩ = some (.int .i64 pf) ∧ w'.cell? ⟨wr.heap.size, 1, none⟩ = some (.int .i64 pt) ∧ w'.cell? ⟨w.heap.size, 3, none⟩ = some (.int .i64 f) ∧ w'.cell? ⟨w.heap.size, 4, none⟩ = some (.int .i64 t)) (go_keep) (fail)
          all_goals
            go_wp2_with fail
            go_meet
            first
              | exact ((HT1.out.drew.set2 (p2' := ⟨max pf f, pt, n, m⟩) (j := 0) rfl).set2 (j := 1) rfl)
              | exact ((HT1.out.drew.set2 (p2' := ⟨pf, min pt t, n, m⟩) (j := 1) rfl).set2 (j := 0) rfl)
              | (trace_state; fail)
        case rest =>
          clear g0 g1 g3 g4 u0 u1 uf0 uf1
          clear hn1 hn2 hn3 hn4
          obtain ⟨⟨g0, g1⟩, g3, g4⟩ := HOld.out _ hcut.un
          obtain ⟨y0, y1, y2, y3, -⟩ := cells_of hcut.h1
          obtain ⟨z0, z1, z2, z3, -⟩ := cells_of hcut.h2
          obtain ⟨u0, u1, u2, u3, uf⟩ := cells_of hcut.h3
          have uf0 := uf 0
          have nn1 := hcut.n13
          have nn2 := hcut.n23
          have nn3 := nn1.symm
          have nn4 := nn2.symm
          have ht3 : Three wp (wc.setCell ⟨x3, 0, none⟩ (.int .i64 (max pf t))) x1 x2 x3 ⟨pf, min pt f, pa, pb⟩ ⟨max pf f, min pt t, n, m⟩ ⟨max pf t, pt, pa, pb⟩ := hcut.set3 (j := 0) rfl
          have HT3 := Lib.hid ht3
          have hsz3 : wc.heap.size = (wc.setCell ⟨x3, 0, none⟩ (.int .i64 (max pf t))).heap.size := by simp
          have HSz3 := Lib.hid hsz3
          have HO3 := Lib.hid (OwnsP.below (HOp.out.below ht3.un) (((Below.refl _ _).alloc (Nat.le_refl _) (.cells (#[.int .i64 pf, .int .i64 (min pt f), .int .i64 pa, .int .i64 pb, .int .i64 (max pf f), .int .i64 (min pt t), .int .i64 n, .int .i64 m, .int .i64 (max pf t), .int .i64 pt, .int .i64 pa, .int .i64 pb]) 85)) : Below (wc.setCell ⟨x3, 0, none⟩ (.int .i64 (max pf t))).heap.size (wc.setCell ⟨x3, 0, none⟩ (.int .i64 (max pf t))) _))
          have HSr := Lib.hid (srcs_parts 85 (wc.setCell ⟨x3, 0, none⟩ (.int .i64 (max pf t))) wc.heap.size (by simp) (cuts ⟨3, n, m, f, t⟩ ⟨pf, pt, pa, pb⟩) #[.int .i64 pf, .int .i64 (min pt f), .int .i64 pa, .int .i64 pb, .int .i64 (max pf f), .int .i64 (min pt t), .int .i64 n, .int .i64 m, .int .i64 (max pf t), .int .i64 pt, .int .i64 pa, .int .i64 pb] rfl)
          clear hcut uf ht3 hsz3
          have hfl : ((c.pts.take k).flatMap (cuts ⟨3, n, m, f, t⟩)).length ≤ 30000 := by
            rw [cuts_len, List.length_take]; omega
          have HBs := Lib.hid (show w1.heap.size ≤ wc.heap.size from Nat.le_trans HBp.out.size (by have := HT3.out.un.size; simpa using this))
          have HBw := Lib.hid (show Below w1.heap.size w1 (wc.setCell ⟨x3, 0, none⟩ (.int .i64 (max pf t))) from HBp.out.trans (HT3.out.un.mono HBp.out.size))
          go_wp2_with (at_builtin; refine wpList_append_own _ rfl (.tmp 110) (.tmp 114) 43 rfl w1.heap.size 85 i0 _ 4 32 Tryz.underlying43 hi0 hz0 hz1 hz2 rfl (by decide) _ _ _ rfl HO3.out ⟨wc.heap.size, 0, none⟩ 3 3 (pflat (cuts ⟨3, n, m, f, t⟩ ⟨pf, pt, pa, pb⟩)) rfl (pflat_length _) HSr.out (pflat_one _) (by unfold maxLen; omega) (by omega) (by have := HBs.out; simp; omega) ?_; intro v' w9 hown9 hgrow9 _; have HOw := Lib.hid hown9; have HGr := Lib.hid hgrow9; clear hown9 hgrow9)
          go_roundw
          case rel =>
            have h9 := HOw.out
            rw [← pflat_append] at h9
            have h8 : OwnsP 85 w9 w1.heap.size v' ((c.pts.take (k + 1)).flatMap (cuts ⟨3, n, m, f, t⟩)) := by
              rw [flat_step _ HX.out]
              unfold OwnsP
              rw [List.length_append]
              exact h9
            obtain ⟨A9, n9, c9, hA9⟩ : ∃ A9 n9 c9, v' = .slice A9 n9 c9 := by (obtain ⟨A', c', e, -⟩ := h8.inP); exact ⟨_, _, _, e⟩
            subst hA9
            exact ⟨k + 1, A9, n9, c9, by omega, by go_num, rfl, h8, (HBw.out.alloc (by have := HBs.out; simpa using this) _).grown HGr.out (by have := HBs.out; simp; omega) (fun q hq => (HO3.out.lt (g := q) hq).1)⟩
          case measure => simp only [intOf]; omega
    · have hlI : ¬ (k : Int) < (c.pts.length : Int) := by omega
      have hbr := hb
      have hq2 := HQ1.out.below hb
      obtain ⟨-, r1, r2, -⟩ := hq2.cells
      rw [List.take_of_length_le (by omega)] at ho
      have HJ := Lib.hid (join_any' ho.inP (by rw [cuts_len]; omega))
      rw [HJP.out] at HJ
      have HQ2 := Lib.hid hq2
      have HBr := Lib.hid ((HB1.out.trans (hb.mono HB1.out.size)).mono hB)
      have HS := Lib.hid (Nat.le_trans hB (Nat.le_trans HB1.out.size hb.size))
      clear ho hb hbr hq2
      go_wp2_with fail
      go_at_call 70
      refine HJ.out.mono ?_
      rintro e w4 ⟨pv', rfl, o4, b4⟩
      obtain ⟨A4, n4, c4, hA4⟩ : ∃ A4 n4 c4, pv' = .slice A4 n4 c4 := by (obtain ⟨A', c', e, -⟩ := o4.inP); exact ⟨_, _, _, e⟩
      subst hA4
      have hc4 := HQ2.out.setP b4 o4
      obtain ⟨-, -, y2, -⟩ := (HQ2.out.below b4).cells
      have y3 := (HQ2.out.below b4).free 2
      have hbl4 := (HQ2.out.below b4).lt
      have HC4 := Lib.hid hc4
      have HB4 := Lib.hid ((Kp.setB (Kp.of (HBr.out.trans (b4.mono HS.out))) 2 (.slice A4 n4 c4)) : Kp B b w (w4.setCell ⟨b, 2, none⟩ (.slice A4 n4 c4)))
      clear hc4 o4 b4 HJ r1 r2
      go_wp2
      go_ret
      first | exact ⟨rfl, fun _ => ⟨_, _, HC4.out⟩, HB4.out⟩ | exact ⟨rfl, ⟨_, _, HC4.out⟩, HB4.out⟩
set_option maxRecDepth 100000 in
set_option maxHeartbeats 4000000 in
theorem place_any {w : World} {B b : Nat} {c : Cf} (h : CB w B b c) (hB : B ≤ w.heap.size) (hs : srvOk (-1) c.srv = true) (hp : ptsOk c.srv 0 256 c.pts = true) (hpl : c.pts.length ≤ 10000) (o : Od) (hk : o.k = 3) :
    Calls Tryz.prog 56 #[.pointer (some ⟨b, 0, none⟩), o.val] w fun e w' => e = .returned (.int .i64 (change c o).1) ∧ ((change c o).1 = 0 → CB w' B b (change c o).2) ∧ Kp B b w w' := by
  obtain ⟨sv, pv, h⟩ := h
  obtain ⟨A0, c0, hA0, -⟩ := h.srv.inI
  subst hA0
  obtain ⟨A2, c2, hA2, hc2⟩ := h.pts.inP
  subst hA2
  rw [change3 hk]
  have hl8 := srvOk_len8 hs
  obtain ⟨i0, hi0, hz0, hz1, hz2⟩ := info_parts infoP
  obtain ⟨P, hP⟩ : ∃ P, pts (placeC c.pts o) = P := ⟨_, rfl⟩
  have hPJ : o.f < o.t → join (c.pts.flatMap (cuts o)) = P := fun h => (place_join hp o h).trans hP
  rw [hP]
  clear hP
  have HPJ := Lib.hid hPJ
  clear hPJ
  obtain ⟨ok, n, m, f, t⟩ := o
  obtain rfl : ok = 3 := hk
  show Calls _ _ #[_, .agg #[.int .i64 3, .int .i64 n, .int .i64 m, .int .i64 f, .int .i64 t]] w fun e w' => e = .returned (.int .i64 (if f < 0 ∨ t > 256 ∨ f ≥ t then ((71 : Int), c) else if n = m then (1, c) else if n ∈ c.srv ∧ m ∈ c.srv then (0, { c with pts := P }) else (3, c)).1) ∧ ((if f < 0 ∨ t > 256 ∨ f ≥ t then ((71 : Int), c) else if n = m then (1, c) else if n ∈ c.srv ∧ m ∈ c.srv then (0, { c with pts := P }) else (3, c)).1 = 0 → CB w' B b (if f < 0 ∨ t > 256 ∨ f ≥ t then ((71 : Int), c) else if n = m then (1, c) else if n ∈ c.srv ∧ m ∈ c.srv then (0, { c with pts := P }) else (3, c)).2) ∧ Kp B b w w'
  have hb1 : Below w.heap.size w (w.alloc (.cells #[.int .i64 3, .int .i64 n, .int .i64 m, .int .i64 f, .int .i64 t] 26)) := (Below.refl _ _).alloc (Nat.le_refl _) _
  have HB := Lib.hid hb1
  have h1 := h.below hb1
  obtain ⟨k0, k1, k2, k3⟩ := h1.cells
  have H1 := Lib.hid h1
  have hblt := h.lt
  have HCo := Lib.hid (contains_drawn h1.srv.inI (by omega))
  have HH := Lib.hid h
  clear hb1 h k0 k3
  by_cases q1 : f < 0
  case pos =>
    rw [if_pos (.inl q1)]
    have d1 : decide (f < 0) = true := decide_eq_true q1
    have Q1 := Lib.hid q1
    clear q1
    go_enter Tryz.func56, Tryz.ntmps56
    go_wp2_with fail
    go_ret
    first | exact ⟨rfl, (fun h => by cases h), Kp.of (HB.out.mono hB)⟩ | exact ⟨rfl, Kp.of (HB.out.mono hB)⟩
  case neg =>
  have d1 : decide (f < 0) = false := decide_eq_false q1
  by_cases q2 : 256 < t
  case pos =>
    rw [if_pos (.inr (.inl q2))]
    have d2 : decide (256 < t) = true := decide_eq_true q2
    have Q1 := Lib.hid q1
    have Q2 := Lib.hid q2
    clear q1 q2
    go_enter Tryz.func56, Tryz.ntmps56
    go_wp2_with fail
    go_ret
    first | exact ⟨rfl, (fun h => by cases h), Kp.of (HB.out.mono hB)⟩ | exact ⟨rfl, Kp.of (HB.out.mono hB)⟩
  case neg =>
  have d2 : decide (256 < t) = false := decide_eq_false q2
  by_cases q3 : t ≤ f
  case pos =>
    rw [if_pos (.inr (.inr q3))]
    have d3 : decide (t ≤ f) = true := decide_eq_true q3
    have Q1 := Lib.hid q1
    have Q2 := Lib.hid q2
    have Q3 := Lib.hid q3
    clear q1 q2 q3
    go_enter Tryz.func56, Tryz.ntmps56
    go_wp2_with fail
    go_ret
    first | exact ⟨rfl, (fun h => by cases h), Kp.of (HB.out.mono hB)⟩ | exact ⟨rfl, Kp.of (HB.out.mono hB)⟩
  case neg =>
  have d3 : decide (t ≤ f) = false := decide_eq_false q3
  rw [if_neg (show ¬ (f < 0 ∨ t > 256 ∨ f ≥ t) by omega)]
  have Q1 := Lib.hid q1
  have Q2 := Lib.hid q2
  have Q3 := Lib.hid q3
  clear q1 q2 q3
  by_cases q4 : n = m
  case pos =>
    rw [if_pos q4]
    have d4 : (n == m) = true := by simpa using q4
    have Q4 := Lib.hid q4
    clear q4
    go_enter Tryz.func56, Tryz.ntmps56
    go_wp2_with fail
    go_ret
    first | exact ⟨rfl, (fun h => by cases h), Kp.of (HB.out.mono hB)⟩ | exact ⟨rfl, Kp.of (HB.out.mono hB)⟩
  case neg =>
  rw [if_neg q4]
  have d4 : (n == m) = false := by simpa using q4
  have Q4 := Lib.hid q4
  clear q4
  by_cases q5 : n ∈ c.srv
  case neg =>
    rw [if_neg (fun h => q5 h.1)]
    have HCn := Lib.hid (HCo.out n)
    rw [decide_eq_false q5] at HCn
    have Q5 := Lib.hid q5
    clear q5
    go_enter Tryz.func56, Tryz.ntmps56
    go_wp2_with fail
    go_quiet ((go_at_call 62; exact HCn.out _))
    go_wp2
    go_ret
    first | exact ⟨rfl, (fun h => by cases h), Kp.of ((below_drewN HB.out _).mono hB)⟩ | exact ⟨rfl, Kp.of ((below_drewN HB.out _).mono hB)⟩
  case pos =>
  have HCn := Lib.hid (HCo.out n)
  rw [decide_eq_true q5] at HCn
  by_cases q6 : m ∈ c.srv
  case neg =>
    rw [if_neg (fun h => q6 h.2)]
    have HCm := Lib.hid (HCo.out m)
    rw [decide_eq_false q6] at HCm
    have Q5 := Lib.hid q5
    have Q6 := Lib.hid q6
    clear q5 q6
    go_enter Tryz.func56, Tryz.ntmps56
    go_wp2_with fail
    go_quiet ((go_at_call 62; first | exact HCn.out _ | exact HCm.out _))
    go_wp2
    go_ret
    first | exact ⟨rfl, (fun h => by cases h), Kp.of ((below_drewN HB.out _).mono hB)⟩ | exact ⟨rfl, Kp.of ((below_drewN HB.out _).mono hB)⟩
  case pos =>
  rw [if_pos ⟨q5, q6⟩]
  exact place_yes HH.out hB hl8 hpl n m f t HPJ.out Q1.out Q2.out Q3.out Q4.out q5 q6
end Go.Proofs.YthjinpbclfankaaGreatDoor
