/-
  Fair (package clock), by a contract: the first window, as the document tells them, over which a clock outruns another.
-/
import Derived.Test.YtdkkoeiceaolnaaInv
import Derived.Sort.CutIn
namespace Go.Proofs.Ytdkkoeiceaolnaa
open Go.RowKit Go.Shelf
attribute [local go_sem] Oper.semAt_some

theorem keeps_from {B : Nat} {W W' : World} (h : Below W.heap.size W W') : KeepsFrom B W W' := ⟨h.size, fun k o _ hk _ => by
  have hlt : k < W.heap.size := (Array.getElem?_eq_some_iff.1 hk).1
  exact (h.block k hlt).trans hk⟩

/-- What lies in Fair's own boxes while it goes over the windows. -/
structure FHold (W : World) (b g n cap k : Nat) (nm sk : Int) (T : Nat → Nat → Int) : Prop where
  box : W.cell? ⟨b, 0, none⟩ = some (.slice (some ⟨g, 0, none⟩) (n + 1) cap)
  dr0 : W.cell? ⟨b + 1, 0, none⟩ = some (.int .i64 nm)
  dr1 : W.cell? ⟨b + 1, 1, none⟩ = some (.int .i64 sk)
  cnt : W.cell? ⟨b + 1 + 1, 0, none⟩ = some (.int .i64 ((k : Int) + 1))
  sums : Sums W g n T
/-- Fair's three results. -/
structure FRes (W : World) (a : Nat) (x y : Int) (ok : Bool) : Prop where
  c0 : W.cell? ⟨a, 0, none⟩ = some (.int .i64 x)
  c1 : W.cell? ⟨a + 1, 0, none⟩ = some (.int .i64 y)
  c2 : W.cell? ⟨a + 1 + 1, 0, none⟩ = some (.bool ok)
  f0 : W.frozen? ⟨a, 0, none⟩ = false
  f1 : W.frozen? ⟨a + 1, 0, none⟩ = false
  f2 : W.frozen? ⟨a + 1 + 1, 0, none⟩ = false
theorem FHold.own {A B : World} {row : Option Nat} {b g n cap k : Nat} {nm sk : Int} {T : Nat → Nat → Int} (h : FHold A b g n cap k nm sk T) (hg : A.grownBy B row) (hr : ∀ r, row = some r → ∃ o : Obj, A.heap[r]? = some o ∧ o.isCells = false) : FHold B b g n cap k nm sk T :=
  ⟨cell_kept h.box hg hr, cell_kept h.dr0 hg hr, cell_kept h.dr1 hg hr, cell_kept h.cnt hg hr, fun r hr' c hc => cell_kept (h.sums r hr' c hc) hg hr⟩
theorem FRes.own {A B : World} {row : Option Nat} {a : Nat} {x y : Int} {ok : Bool} (h : FRes A a x y ok) (hg : A.grownBy B row) (hr : ∀ r, row = some r → ∃ o : Obj, A.heap[r]? = some o ∧ o.isCells = false) : FRes B a x y ok :=
  ⟨cell_kept h.c0 hg hr, cell_kept h.c1 hg hr, cell_kept h.c2 hg hr, (frozen_kept h.c0 hg hr).trans h.f0, (frozen_kept h.c1 hg hr).trans h.f1, (frozen_kept h.c2 hg hr).trans h.f2⟩
theorem FHold.below {A B : World} {b g n cap k : Nat} {nm sk : Int} {T : Nat → Nat → Int} (h : FHold A b g n cap k nm sk T) (hb : Below A.heap.size A B) : FHold B b g n cap k nm sk T :=
  ⟨(hb.cell (p := ⟨b, 0, none⟩) (cell_lt5 h.box)).trans h.box, (hb.cell (p := ⟨b + 1, 0, none⟩) (cell_lt5 h.dr0)).trans h.dr0, (hb.cell (p := ⟨b + 1, 1, none⟩) (cell_lt5 h.dr1)).trans h.dr1, (hb.cell (p := ⟨b + 1 + 1, 0, none⟩) (cell_lt5 h.cnt)).trans h.cnt,
   fun r hr c hc => (hb.cell (p := ⟨g, r * 8 + c, none⟩) (cell_lt5 (h.sums r hr c hc))).trans (h.sums r hr c hc)⟩
theorem frozen_below {A B : World} {N b o : Nat} (hb : Below N A B) (h : b < N) (hf : A.frozen? ⟨b, o, none⟩ = false) : B.frozen? ⟨b, o, none⟩ = false := by
  have := hb.block b h
  simpa [World.frozen?, this] using hf
theorem FRes.below {A B : World} {a : Nat} {x y : Int} {ok : Bool} (h : FRes A a x y ok) (hb : Below A.heap.size A B) : FRes B a x y ok :=
  ⟨(hb.cell (p := ⟨a, 0, none⟩) (cell_lt5 h.c0)).trans h.c0, (hb.cell (p := ⟨a + 1, 0, none⟩) (cell_lt5 h.c1)).trans h.c1, (hb.cell (p := ⟨a + 1 + 1, 0, none⟩) (cell_lt5 h.c2)).trans h.c2,
   frozen_below hb (cell_lt5 h.c0) h.f0, frozen_below hb (cell_lt5 h.c1) h.f1, frozen_below hb (cell_lt5 h.c2) h.f2⟩

theorem FRes.set {W : World} {a : Nat} {x y : Int} {ok : Bool} (h : FRes W a x y ok) (x' y' : Int) (ok' : Bool) : FRes (((W.setCell ⟨a, 0, none⟩ (.int .i64 x')).setCell ⟨a + 1, 0, none⟩ (.int .i64 y')).setCell ⟨a + 1 + 1, 0, none⟩ (.bool ok')) a x' y' ok' := by
  have e1 : ((W.setCell ⟨a, 0, none⟩ (.int .i64 x'))).cell? ⟨a + 1, 0, none⟩ = some (.int .i64 y) := (World.cell?_setCell_other _ _ _ _ (by simp)).trans h.c1
  have e2 : ((W.setCell ⟨a, 0, none⟩ (.int .i64 x')).setCell ⟨a + 1, 0, none⟩ (.int .i64 y')).cell? ⟨a + 1 + 1, 0, none⟩ = some (.bool ok) := (World.cell?_setCell_other _ _ _ _ (by simp)).trans ((World.cell?_setCell_other _ _ _ _ (by simp)).trans h.c2)
  refine ⟨?_, ?_, ?_, ?_, ?_, ?_⟩
  · rw [World.cell?_setCell_other _ _ _ _ (by simp), World.cell?_setCell_other _ _ _ _ (by simp)]
    exact World.cell?_setCell_same' _ _ _ (by rw [h.c0]; rfl)
  · rw [World.cell?_setCell_other _ _ _ _ (by simp)]
    exact World.cell?_setCell_same' _ _ _ (by rw [e1]; rfl)
  · exact World.cell?_setCell_same' _ _ _ (by rw [e2]; rfl)
  · rw [World.frozen?_setCell, World.frozen?_setCell, World.frozen?_setCell]; exact h.f0
  · rw [World.frozen?_setCell, World.frozen?_setCell, World.frozen?_setCell]; exact h.f1
  · rw [World.frozen?_setCell, World.frozen?_setCell, World.frozen?_setCell]; exact h.f2
theorem FRes.set_below {N : Nat} {v W : World} {a : Nat} {u0 u1 u2 : Value} (h : Below N v W) (ha : N ≤ a) : Below N v (((W.setCell ⟨a, 0, none⟩ u0).setCell ⟨a + 1, 0, none⟩ u1).setCell ⟨a + 1 + 1, 0, none⟩ u2) :=
  ((h.setCell (p := ⟨a, 0, none⟩) ha _).setCell (p := ⟨a + 1, 0, none⟩) (by show N ≤ a + 1; omega) _).setCell (p := ⟨a + 1 + 1, 0, none⟩) (by show N ≤ a + 1 + 1; omega) _
theorem FRes.set_keeps {W : World} {a : Nat} {u0 u1 u2 : Value} : KeepsOthers W (((W.setCell ⟨a, 0, none⟩ u0).setCell ⟨a + 1, 0, none⟩ u1).setCell ⟨a + 1 + 1, 0, none⟩ u2) :=
  ((KeepsOthers.setCell _ _ _).trans (KeepsOthers.setCell _ _ _)).trans (KeepsOthers.setCell _ _ _)

/-- A new row of eight zeros abides what goes on behind it. -/
theorem row_after {W0 W1 : World} {t : TypeId} (hb : Below (W0.alloc (.cells #[.int .i64 0, .int .i64 0, .int .i64 0, .int .i64 0, .int .i64 0, .int .i64 0, .int .i64 0, .int .i64 0] t)).drew.heap.size (W0.alloc (.cells #[.int .i64 0, .int .i64 0, .int .i64 0, .int .i64 0, .int .i64 0, .int .i64 0, .int .i64 0, .int .i64 0] t)).drew W1) : W1.rowIs W0.heap.size t 8 (intF fun _ => 0) :=
  (row_new W0 (fun _ => 0) t).of_block (hb.block _ (by simp [World.drew]))
theorem row_zero {w : World} {b t : Nat} (h : w.rowIs b t 8 (intF fun _ => 0)) :
    (w.cell? ⟨b, 0, none⟩ = some (.int .i64 0) ∧ w.cell? ⟨b, 1, none⟩ = some (.int .i64 0) ∧ w.cell? ⟨b, 2, none⟩ = some (.int .i64 0) ∧ w.cell? ⟨b, 3, none⟩ = some (.int .i64 0) ∧ w.cell? ⟨b, 4, none⟩ = some (.int .i64 0) ∧ w.cell? ⟨b, 5, none⟩ = some (.int .i64 0) ∧ w.cell? ⟨b, 6, none⟩ = some (.int .i64 0) ∧ w.cell? ⟨b, 7, none⟩ = some (.int .i64 0)) ∧
    (w.frozen? ⟨b, 0, none⟩ = false ∧ w.frozen? ⟨b, 1, none⟩ = false ∧ w.frozen? ⟨b, 2, none⟩ = false ∧ w.frozen? ⟨b, 3, none⟩ = false ∧ w.frozen? ⟨b, 4, none⟩ = false ∧ w.frozen? ⟨b, 5, none⟩ = false ∧ w.frozen? ⟨b, 6, none⟩ = false ∧ w.frozen? ⟨b, 7, none⟩ = false) :=
  ⟨row_cells h, h.frozen _, h.frozen _, h.frozen _, h.frozen _, h.frozen _, h.frozen _, h.frozen _, h.frozen _⟩
theorem row_eight {w : World} {b t : Nat} {f z : Nat → Int} (h : w.rowIs b t 8 (intF f)) :
    ((((((((w.setCell ⟨b, 0, none⟩ (.int .i64 (z 0))).setCell ⟨b, 1, none⟩ (.int .i64 (z 1))).setCell ⟨b, 2, none⟩ (.int .i64 (z 2))).setCell ⟨b, 3, none⟩ (.int .i64 (z 3))).setCell ⟨b, 4, none⟩ (.int .i64 (z 4))).setCell ⟨b, 5, none⟩ (.int .i64 (z 5))).setCell ⟨b, 6, none⟩ (.int .i64 (z 6))).setCell ⟨b, 7, none⟩ (.int .i64 (z 7))).rowIs b t 8 (intF z) :=
  ((((((((h.set 0 _).set 1 _).set 2 _).set 3 _).set 4 _).set 5 _).set 6 _).set 7 _).congr (fun j hj => by match j, hj with | 0, _ | 1, _ | 2, _ | 3, _ | 4, _ | 5, _ | 6, _ | 7, _ => rfl)
theorem below_eight {N : Nat} {v w : World} {b : Nat} {u0 u1 u2 u3 u4 u5 u6 u7 : Value} (h : Below N v w) (hb : N ≤ b) :
    Below N v ((((((((w.setCell ⟨b, 0, none⟩ u0).setCell ⟨b, 1, none⟩ u1).setCell ⟨b, 2, none⟩ u2).setCell ⟨b, 3, none⟩ u3).setCell ⟨b, 4, none⟩ u4).setCell ⟨b, 5, none⟩ u5).setCell ⟨b, 6, none⟩ u6).setCell ⟨b, 7, none⟩ u7) :=
  (((((((h.setCell (p := ⟨b, 0, none⟩) hb _).setCell (p := ⟨b, 1, none⟩) hb _).setCell (p := ⟨b, 2, none⟩) hb _).setCell (p := ⟨b, 3, none⟩) hb _).setCell (p := ⟨b, 4, none⟩) hb _).setCell (p := ⟨b, 5, none⟩) hb _).setCell (p := ⟨b, 6, none⟩) hb _).setCell (p := ⟨b, 7, none⟩) hb _

theorem Sums.eight {w : World} {g n : Nat} {T : Nat → Nat → Int} (h : Sums w g n T) {x : Nat} (hx : x ≤ n) :
    w.cell? ⟨g, x * 8, none⟩ = some (.int .i64 (sm T 0 x)) ∧ w.cell? ⟨g, x * 8 + 1, none⟩ = some (.int .i64 (sm T 1 x)) ∧ w.cell? ⟨g, x * 8 + 2, none⟩ = some (.int .i64 (sm T 2 x)) ∧ w.cell? ⟨g, x * 8 + 3, none⟩ = some (.int .i64 (sm T 3 x)) ∧ w.cell? ⟨g, x * 8 + 4, none⟩ = some (.int .i64 (sm T 4 x)) ∧ w.cell? ⟨g, x * 8 + 5, none⟩ = some (.int .i64 (sm T 5 x)) ∧ w.cell? ⟨g, x * 8 + 6, none⟩ = some (.int .i64 (sm T 6 x)) ∧ w.cell? ⟨g, x * 8 + 7, none⟩ = some (.int .i64 (sm T 7 x)) :=
  have hs := h x hx; ⟨hs 0 (by omega), hs 1 (by omega), hs 2 (by omega), hs 3 (by omega), hs 4 (by omega), hs 5 (by omega), hs 6 (by omega), hs 7 (by omega)⟩

set_option maxRecDepth 100000 in
set_option maxHeartbeats 4000000 in
theorem fair_any (A : Option Addr) (n c : Nat) (T : Nat → Nat → Int) (k0 num slack : Int) (w : World) (h : Hist w A n T) (hn : n ≤ 31) :
    Calls Try.prog 17 #[.slice A n c, .int .i64 k0, .int .i64 num, .int .i64 slack] w fun e w' => e = .returned (fairV (fst? T n (cl k0 1 8).toNat (cl num 0 1000) (cl slack 0 1048576))) ∧ Below w.heap.size w w' := by
  have hk := cl_in k0 1 8 (by omega)
  obtain ⟨hm0, hm1⟩ := cl_in num 0 1000 (by omega)
  obtain ⟨hs0, hs1⟩ := cl_in slack 0 1048576 (by omega)
  obtain ⟨k, hkk⟩ : ∃ k : Nat, cl k0 1 8 = (k : Int) + 1 := ⟨(cl k0 1 8 - 1).toNat, by omega⟩
  have HC := Lib.hid (fun w => countOf_any k0 w)
  have HD := Lib.hid (fun w => driftOf_any num slack w)
  rw [hkk] at HC ⊢
  have hk8 : k < 8 := by omega
  rw [show ((k : Int) + 1).toNat = k + 1 by omega]
  generalize cl num 0 1000 = nm at HD hm0 hm1 ⊢
  generalize cl slack 0 1048576 = sk at HD hs0 hs1 ⊢
  have B3 : Below w.heap.size w (((w.alloc (.cells #[.int .i64 0] 3)).alloc (.cells #[.int .i64 0] 3)).alloc (.cells #[.bool false] 4)) := by go_grown
  have z3 : (((w.alloc (.cells #[.int .i64 0] 3)).alloc (.cells #[.int .i64 0] 3)).alloc (.cells #[.bool false] 4)).heap.size = w.heap.size + 3 := by simp
  have HS := Lib.hid (sumsOf_any A n c T _ (h.below B3 (Nat.le_refl _)) hn)
  have HO := Lib.hid h.ok
  have HB3 := Lib.hid B3
  have r3 : FRes (((w.alloc (.cells #[.int .i64 0] 3)).alloc (.cells #[.int .i64 0] 3)).alloc (.cells #[.bool false] 4)) w.heap.size 0 0 false := by
    have b0 := ((Boxed.new w 3 (.int .i64 0)).alloc (.cells #[.int .i64 0] 3)).alloc (.cells #[.bool false] 4)
    have b1 := (Boxed.new (w.alloc (.cells #[.int .i64 0] 3)) 3 (.int .i64 0)).alloc (.cells #[.bool false] 4)
    have b2 := Boxed.new ((w.alloc (.cells #[.int .i64 0] 3)).alloc (.cells #[.int .i64 0] 3)) 4 (.bool false)
    rw [World.size_alloc] at b1
    rw [World.size_alloc, World.size_alloc] at b2
    exact ⟨b0.cell, b1.cell, b2.cell, b0.frozen, b1.frozen, b2.frozen⟩
  have HR3 := Lib.hid r3
  have HZ3 := Lib.hid z3
  clear hk hkk h B3 z3 r3
  refine (callsIn_wide (n := 8)).1 ?_
  refine callsIn_of_wp_marks Try.func17 rfl trivial ?_ rfl
  simp only [Try.ntmps17, List.size_toArray, List.length_cons, List.length_nil, Nat.reduceAdd, Nat.reduceSub, Array.replicate_succ, Array.replicate_zero, List.push_toArray, List.append_toArray, List.nil_append, List.cons_append]
  gi_wp2_with (first
    | (refine ⟨trivial, ?_⟩; gi_at_call 25; refine (callsIn_wide.2 HS.out).mono ?_; rintro e w1 hs; obtain ⟨g, cap, rfl, hS, hg, hB1⟩ := hs; have KS := Lib.hid hS; have KB1 := Lib.hid hB1; have KG := Lib.hid hg; clear hS hg hB1)
    | (refine ⟨trivial, ?_⟩; gi_at_call 26; refine (callsIn_wide.2 (HD.out _)).mono ?_; rintro e w2 ⟨rfl, hB2⟩; have KB2 := Lib.hid hB2; clear hB2)
    | (refine ⟨trivial, ?_⟩; gi_at_call 22; refine (callsIn_wide.2 (HC.out _)).mono ?_; rintro e w2' ⟨rfl, rfl⟩)
    | (refine ⟨trivial, ?_⟩; gi_at_call 27; refine (callsIn_wide.2 (windows_any n _)).mono ?_; rintro e w3 ⟨rfl, rfl⟩))
  have hB2 := KB1.out.trans (KB2.out.mono KB1.out.size)
  have hw2 : w.heap.size + 3 ≤ w2.heap.size := by have := hB2.size; rw [HZ3.out] at this; exact this
  have hBw := HB3.out.trans (hB2.mono HB3.out.size)
  have hR2 := HR3.out.below hB2
  have hS2 : Sums w2 g n T := fun r hr c hc => (KB2.out.cell (p := ⟨g, r * 8 + c, none⟩) (cell_lt5 (KS.out r hr c hc))).trans (KS.out r hr c hc)
  have hgl : w.heap.size + 3 ≤ g := by have := KG.out; rw [HZ3.out] at this; exact this
  have hB4 : Below w2.heap.size w2 ((((w2.alloc (.cells #[.slice (some ⟨g, 0, none⟩) (n + 1) cap] 54)).alloc (.cells #[.int .i64 nm, .int .i64 sk] 57)).alloc (.cells #[.int .i64 ((k : Int) + 1)] 3)).alloc (.cells #[.int .i64 n] 3)) := by go_grown
  have hcN : ((((w2.alloc (.cells #[.slice (some ⟨g, 0, none⟩) (n + 1) cap] 54)).alloc (.cells #[.int .i64 nm, .int .i64 sk] 57)).alloc (.cells #[.int .i64 ((k : Int) + 1)] 3)).alloc (.cells #[.int .i64 n] 3)).cell? ⟨w2.heap.size + 1 + 1 + 1, 0, none⟩ = some (.int .i64 n) := by
    have b1 := Boxed.new (((w2.alloc (.cells #[.slice (some ⟨g, 0, none⟩) (n + 1) cap] 54)).alloc (.cells #[.int .i64 nm, .int .i64 sk] 57)).alloc (.cells #[.int .i64 ((k : Int) + 1)] 3)) 3 (.int .i64 n)
    rw [World.size_alloc, World.size_alloc, World.size_alloc] at b1
    exact b1.cell
  have hH4 : FHold ((((w2.alloc (.cells #[.slice (some ⟨g, 0, none⟩) (n + 1) cap] 54)).alloc (.cells #[.int .i64 nm, .int .i64 sk] 57)).alloc (.cells #[.int .i64 ((k : Int) + 1)] 3)).alloc (.cells #[.int .i64 n] 3)) w2.heap.size g n cap k nm sk T := by
    have b0 := (((Boxed.new w2 54 (.slice (some ⟨g, 0, none⟩) (n + 1) cap)).alloc (.cells #[.int .i64 nm, .int .i64 sk] 57)).alloc (.cells #[.int .i64 ((k : Int) + 1)] 3)).alloc (.cells #[.int .i64 n] 3)
    have b1 := ((World.rowIs_alloc (w2.alloc (.cells #[.slice (some ⟨g, 0, none⟩) (n + 1) cap] 54)) #[.int .i64 nm, .int .i64 sk] 57 (fun i => if i = 0 then .int .i64 nm else .int .i64 sk) (fun i hi => by match i, hi with | 0, _ | 1, _ => rfl)).alloc (.cells #[.int .i64 ((k : Int) + 1)] 3)).alloc (.cells #[.int .i64 n] 3)
    have b2 := (Boxed.new ((w2.alloc (.cells #[.slice (some ⟨g, 0, none⟩) (n + 1) cap] 54)).alloc (.cells #[.int .i64 nm, .int .i64 sk] 57)) 3 (.int .i64 ((k : Int) + 1))).alloc (.cells #[.int .i64 n] 3)
    rw [World.size_alloc] at b1
    rw [World.size_alloc, World.size_alloc] at b2
    exact ⟨b0.cell, b1.cell (i := 0) (by simp), b1.cell (i := 1) (by simp), b2.cell, fun r hr c hc => (hB4.cell (p := ⟨g, r * 8 + c, none⟩) (cell_lt5 (hS2 r hr c hc))).trans (hS2 r hr c hc)⟩
  have hR4 := hR2.below hB4
  have hBw4 := hBw.trans (hB4.mono hBw.size)
  have hz4 : ((((w2.alloc (.cells #[.slice (some ⟨g, 0, none⟩) (n + 1) cap] 54)).alloc (.cells #[.int .i64 nm, .int .i64 sk] 57)).alloc (.cells #[.int .i64 ((k : Int) + 1)] 3)).alloc (.cells #[.int .i64 n] 3)).heap.size = w2.heap.size + 4 := by simp
  clear hB4 hS2 hR2 hB2 hBw KB1 KB2 KS KG HZ3 HB3 HR3 HS HC HD
  generalize ((((w2.alloc (.cells #[.slice (some ⟨g, 0, none⟩) (n + 1) cap] 54)).alloc (.cells #[.int .i64 nm, .int .i64 sk] 57)).alloc (.cells #[.int .i64 ((k : Int) + 1)] 3)).alloc (.cells #[.int .i64 n] 3)) = W0 at *
  generalize w2.heap.size = b at *
  refine wpIn_rangeFunc_ownG rfl (by omega) (gf := 33) (lb := #[.pointer (some ⟨b + 1 + 1 + 1, 0, none⟩)]) rfl trivial (enters_of Try.func33 (by kernel_rfl) rfl)
    (win_stops n _ (b + 1 + 1 + 1) hn (by omega) W0 hcN) (fun _ _ => trivial) (fun _ _ _ _ _ _ _ _ => trivial) (Below.refl _ _) (fun _ => rfl)
    (fun pre W => ((∀ p ∈ pre, ¬ Unf T (k + 1) nm sk p.1.1 p.1.2) ∧ FRes W w.heap.size 0 0 false ∧ FHold W b g n cap k nm sk T) ∧ Below w.heap.size w W)
    (fun e pre W => (e = .ret ∧ ∃ ini x, pre = ini ++ [x] ∧ (∀ p ∈ ini, ¬ Unf T (k + 1) nm sk p.1.1 p.1.2) ∧ Unf T (k + 1) nm sk x.1.1 x.1.2 ∧ FRes W w.heap.size x.1.1 x.1.2 false) ∧ Below w.heap.size w W)
    (OwnFrom.and (Own.from (fun s A B row hs hg hr => ⟨hs.1, hs.2.1.own hg hr, hs.2.2.own hg hr⟩) _) (ownFrom_below (Nat.le_refl _) (by omega)))
    (fun e => OwnFrom.and (Own.from (fun s A B row hs hg hr => by obtain ⟨he, ini, x, e1, e2, e3, e4⟩ := hs; exact ⟨he, ini, x, e1, e2, e3, e4.own hg hr⟩) _) (ownFrom_below (Nat.le_refl _) (by omega)))
    ⟨⟨by simp, hR4, hH4⟩, hBw4⟩
    (fun x => { tmps := #[.slice A n c, .int .i64 k0, .int .i64 num, .int .i64 slack, undef, undef, undef, undef, .pointer (some ⟨w.heap.size, 0, none⟩), .pointer (some ⟨w.heap.size + 1, 0, none⟩), .pointer (some ⟨w.heap.size + 1 + 1, 0, none⟩), .pointer (some ⟨b, 0, none⟩), .pointer (some ⟨b + 1, 0, none⟩), .pointer (some ⟨b + 1 + 1, 0, none⟩), .int .i64 (x.1.1 : Int), .int .i64 (x.1.2 : Int), undef, .slice A n c, .slice (some ⟨g, 0, none⟩) (n + 1) cap, .int .i64 num, .int .i64 slack, .agg #[.int .i64 nm, .int .i64 sk], .int .i64 k0, .int .i64 ((k : Int) + 1), .slice A n c, .int .i64 n, .func (.func 33) #[] #[.pointer (some ⟨b + 1 + 1 + 1, 0, none⟩)], .int .i64 (x.1.1 : Int), .int .i64 (x.1.2 : Int), undef, undef, undef, undef, undef, undef, undef, undef, undef, undef, undef, undef, undef, undef, undef, undef], defers := [] }) ?assign ?body ?done ?stop
  case assign =>
    intro l x W K hK
    gi_wp2
    exact hK
  case body =>
    rintro l pre ⟨⟨x, y⟩, hxy, hyn⟩ W ⟨⟨hp, hR, hH⟩, hB⟩ _
    simp only at hxy hyn
    have hmx : Try.prog.follows .mixedOrders = true := by kernel_rfl
    obtain ⟨q0, q1, q2, q3, q4, q5, q6, q7⟩ : W.cell? ⟨g, x * 8, none⟩ = some (.int .i64 (sm T 0 x)) ∧ W.cell? ⟨g, x * 8 + 1, none⟩ = some (.int .i64 (sm T 1 x)) ∧ W.cell? ⟨g, x * 8 + 2, none⟩ = some (.int .i64 (sm T 2 x)) ∧ W.cell? ⟨g, x * 8 + 3, none⟩ = some (.int .i64 (sm T 3 x)) ∧ W.cell? ⟨g, x * 8 + 4, none⟩ = some (.int .i64 (sm T 4 x)) ∧ W.cell? ⟨g, x * 8 + 5, none⟩ = some (.int .i64 (sm T 5 x)) ∧ W.cell? ⟨g, x * 8 + 6, none⟩ = some (.int .i64 (sm T 6 x)) ∧ W.cell? ⟨g, x * 8 + 7, none⟩ = some (.int .i64 (sm T 7 x)) :=
      have hs := hH.sums x (by omega); ⟨hs 0 (by omega), hs 1 (by omega), hs 2 (by omega), hs 3 (by omega), hs 4 (by omega), hs 5 (by omega), hs 6 (by omega), hs 7 (by omega)⟩
    obtain ⟨r0, r1, r2, r3, r4, r5, r6, r7⟩ : W.cell? ⟨g, (y + 1) * 8, none⟩ = some (.int .i64 (sm T 0 (y + 1))) ∧ W.cell? ⟨g, (y + 1) * 8 + 1, none⟩ = some (.int .i64 (sm T 1 (y + 1))) ∧ W.cell? ⟨g, (y + 1) * 8 + 2, none⟩ = some (.int .i64 (sm T 2 (y + 1))) ∧ W.cell? ⟨g, (y + 1) * 8 + 3, none⟩ = some (.int .i64 (sm T 3 (y + 1))) ∧ W.cell? ⟨g, (y + 1) * 8 + 4, none⟩ = some (.int .i64 (sm T 4 (y + 1))) ∧ W.cell? ⟨g, (y + 1) * 8 + 5, none⟩ = some (.int .i64 (sm T 5 (y + 1))) ∧ W.cell? ⟨g, (y + 1) * 8 + 6, none⟩ = some (.int .i64 (sm T 6 (y + 1))) ∧ W.cell? ⟨g, (y + 1) * 8 + 7, none⟩ = some (.int .i64 (sm T 7 (y + 1))) :=
      have hs := hH.sums (y + 1) (by omega); ⟨hs 0 (by omega), hs 1 (by omega), hs 2 (by omega), hs 3 (by omega), hs 4 (by omega), hs 5 (by omega), hs 6 (by omega), hs 7 (by omega)⟩
    have hbox := hH.box
    have hbt : ∀ w, Calls Try.prog 28 #[.agg #[.int .i64 (sm T 0 x), .int .i64 (sm T 1 x), .int .i64 (sm T 2 x), .int .i64 (sm T 3 x), .int .i64 (sm T 4 x), .int .i64 (sm T 5 x), .int .i64 (sm T 6 x), .int .i64 (sm T 7 x)],
          .agg #[.int .i64 (sm T 0 (y + 1)), .int .i64 (sm T 1 (y + 1)), .int .i64 (sm T 2 (y + 1)), .int .i64 (sm T 3 (y + 1)), .int .i64 (sm T 4 (y + 1)), .int .i64 (sm T 5 (y + 1)), .int .i64 (sm T 6 (y + 1)), .int .i64 (sm T 7 (y + 1))]] w
        fun e w' => e = .returned (.agg #[.int .i64 (way T x y 0), .int .i64 (way T x y 1), .int .i64 (way T x y 2), .int .i64 (way T x y 3), .int .i64 (way T x y 4), .int .i64 (way T x y 5), .int .i64 (way T x y 6), .int .i64 (way T x y 7)]) ∧ Below w.heap.size w w' :=
      fun w => between_any (fun c => sm T c x) (fun c => sm T c (y + 1)) w (fun i _ => sm_bound HO.out (by omega) hn) (fun i _ => sm_bound HO.out (by omega) hn)
    have HBt := Lib.hid hbt
    clear hbt
    have HR := Lib.hid hR
    have HH := Lib.hid hH
    have HB := Lib.hid hB
    have HP := Lib.hid hp
    clear hR hH hB hp hBw4 hR4 hH4 hcN
    have hx8 : (x : Int) < (n : Int) + 1 := by omega
    have hy8 : (y : Int) + 1 < (n : Int) + 1 := by omega
    have hyN : (y : Int) < (n : Int) := by omega
    have hyT : ((y : Int) + 1).toNat = y + 1 := by omega
    have hy1 : (0 : Int) ≤ (y : Int) + 1 := by omega
    have hwr : IntKind.i64.wrap ((y : Int) + 1) = (y : Int) + 1 := IntWalk.i64_in _ (by omega)
    have hgW : g < W.heap.size := cell_lt5 q0
    have hbW : b < W.heap.size := cell_lt5 hbox
    have hg1 : g ≠ W.heap.size := by omega
    have hg2 : W.heap.size ≠ g := by omega
    have hb1' : b ≠ W.heap.size := by omega
    have hb2' : W.heap.size ≠ b := by omega
    gi_wp2
    gi_cut [16] from 29 (fun v W2 => ∃ blk : Nat, v = .pointer (some ⟨blk, 0, none⟩) ∧ W.heap.size ≤ blk ∧ Below W.heap.size W W2 ∧ W2.rowIs blk 62 8 (intF (way T x y)))
    case first =>
      clear q0 q1 q2 q3 q4 q5 q6 q7 r0 r1 r2 r3 r4 r5 r6 r7
      refine region_inv hmx (fun L a' w' => ∃ (l0 l1 l2 l3 l4 l5 l6 l7 l8 l9 l10 l11 : Bool) (blk : Nat), L = #[l0, l1, l2, l3, l4, l5, l6, l7, l8, l9, l10, l11] ∧ a' = { tmps := #[.slice A n c, .int .i64 k0, .int .i64 num, .int .i64 slack, undef, undef, undef, undef, .pointer (some ⟨w.heap.size, 0, none⟩), .pointer (some ⟨w.heap.size + 1, 0, none⟩), .pointer (some ⟨w.heap.size + 1 + 1, 0, none⟩), .pointer (some ⟨b, 0, none⟩), .pointer (some ⟨b + 1, 0, none⟩), .pointer (some ⟨b + 1 + 1, 0, none⟩), .int .i64 (x : Int), .int .i64 (y : Int), cond l10 (.pointer (some ⟨blk, 0, none⟩)) undef, .slice A n c, .slice (some ⟨g, 0, none⟩) (n + 1) cap, .int .i64 num, .int .i64 slack, .agg #[.int .i64 nm, .int .i64 sk], .int .i64 k0, .int .i64 ((k : Int) + 1), .slice A n c, .int .i64 n, .func (.func 33) #[] #[.pointer (some ⟨b + 1 + 1 + 1, 0, none⟩)], .int .i64 (x : Int), .int .i64 (y : Int), cond l0 (.slice (some ⟨g, 0, none⟩) (n + 1) cap) undef, cond l1 (.int .i64 (x : Int)) undef, cond l2 (.pointer (some ⟨g, x * 8, none⟩)) undef, cond l3 (.agg (ar fun c => sm T c x)) undef, cond l4 (.slice (some ⟨g, 0, none⟩) (n + 1) cap) undef, cond l5 (.int .i64 (y : Int)) undef, cond l6 (.int .i64 ((y : Int) + 1)) undef, cond l7 (.pointer (some ⟨g, (y + 1) * 8, none⟩)) undef, cond l8 (.agg (ar fun c => sm T c (y + 1))) undef, cond l9 (.agg (ar (way T x y))) undef, undef, undef, undef, undef, undef, undef], defers := [] } ∧ Below W.heap.size W w' ∧ (l11 = true → l10 = true) ∧ (l10 = true → W.heap.size ≤ blk ∧ w'.rowIs blk 62 8 (intF (if l11 = true then way T x y else fun _ => 0)))) ?rstart ?rstep ?rdone
      case rstart => exact ⟨false, false, false, false, false, false, false, false, false, false, false, false, 0, rfl, rfl, (Below.refl _ W).drew, (fun h => by cases h), (fun h => by cases h)⟩
      case rstep =>
        rintro L a' w' ⟨l0, l1, l2, l3, l4, l5, l6, l7, l8, l9, l10, l11, blk, rfl, rfl, hB', hL, hblk⟩
        refine StepsOk.cons 1 rfl ?o0 (StepsOk.cons 2 rfl ?o1 (StepsOk.cons 3 rfl ?o2 (StepsOk.cons 4 rfl ?o3 (StepsOk.cons 5 rfl ?o4 (StepsOk.cons 6 rfl ?o5 (StepsOk.cons 7 rfl ?o6 (StepsOk.cons 8 rfl ?o7 (StepsOk.cons 9 rfl ?o8 (StepsOk.cons 10 rfl ?o9 (StepsOk.cons 11 rfl ?o10 (StepsOk.cons 12 rfl ?o11 StepsOk.nil)))))))))))
        case o0 =>
          intro hl haft K hK
          have e0 : l0 = false := by simpa using hl
          subst e0
          clear hl haft
          have c0 := (hB'.cell (p := ⟨b, 0, none⟩) hbW).trans hbox
          have KB := Lib.hid hB'
          have KK := Lib.hid hblk
          clear hB' hblk
          go_simp
          exact hK _ _ ⟨true, l1, l2, l3, l4, l5, l6, l7, l8, l9, l10, l11, blk, rfl, rfl, KB.out, hL, KK.out⟩
        case o1 =>
          intro hl haft K hK
          have e1 : l1 = false := by simpa using hl
          subst e1
          clear hl haft
          have KB := Lib.hid hB'
          have KK := Lib.hid hblk
          clear hB' hblk
          go_simp
          exact hK _ _ ⟨l0, true, l2, l3, l4, l5, l6, l7, l8, l9, l10, l11, blk, rfl, rfl, KB.out, hL, KK.out⟩
        case o2 =>
          intro hl haft K hK
          have e2 : l2 = false := by simpa using hl
          have hd : l0 = true ∧ l1 = true := by simpa [Region.binds, and_assoc] using haft
          obtain ⟨rfl, rfl⟩ := hd
          subst e2
          clear hl haft
          have KB := Lib.hid hB'
          have KK := Lib.hid hblk
          clear hB' hblk
          go_simp
          exact hK _ _ ⟨true, true, true, l3, l4, l5, l6, l7, l8, l9, l10, l11, blk, rfl, rfl, KB.out, hL, KK.out⟩
        case o3 =>
          intro hl haft K hK
          have e3 : l3 = false := by simpa using hl
          have hd : l2 = true := by simpa [Region.binds, and_assoc] using haft
          subst hd
          subst e3
          clear hl haft
          obtain ⟨q0, q1, q2, q3, q4, q5, q6, q7⟩ := ((HH.out.below hB').sums.eight (show x ≤ n by omega))
          have KB := Lib.hid hB'
          have KK := Lib.hid hblk
          clear hB' hblk
          go_simp
          exact hK _ _ ⟨l0, l1, true, true, l4, l5, l6, l7, l8, l9, l10, l11, blk, rfl, rfl, KB.out, hL, KK.out⟩
        case o4 =>
          intro hl haft K hK
          have e4 : l4 = false := by simpa using hl
          subst e4
          clear hl haft
          have c0 := (hB'.cell (p := ⟨b, 0, none⟩) hbW).trans hbox
          have KB := Lib.hid hB'
          have KK := Lib.hid hblk
          clear hB' hblk
          go_simp
          exact hK _ _ ⟨l0, l1, l2, l3, true, l5, l6, l7, l8, l9, l10, l11, blk, rfl, rfl, KB.out, hL, KK.out⟩
        case o5 =>
          intro hl haft K hK
          have e5 : l5 = false := by simpa using hl
          subst e5
          clear hl haft
          have KB := Lib.hid hB'
          have KK := Lib.hid hblk
          clear hB' hblk
          go_simp
          exact hK _ _ ⟨l0, l1, l2, l3, l4, true, l6, l7, l8, l9, l10, l11, blk, rfl, rfl, KB.out, hL, KK.out⟩
        case o6 =>
          intro hl haft K hK
          have e6 : l6 = false := by simpa using hl
          have hd : l5 = true := by simpa [Region.binds, and_assoc] using haft
          subst hd
          subst e6
          clear hl haft
          have KB := Lib.hid hB'
          have KK := Lib.hid hblk
          clear hB' hblk
          go_simp
          exact hK _ _ ⟨l0, l1, l2, l3, l4, true, true, l7, l8, l9, l10, l11, blk, rfl, rfl, KB.out, hL, KK.out⟩
        case o7 =>
          intro hl haft K hK
          have e7 : l7 = false := by simpa using hl
          have hd : l4 = true ∧ l6 = true := by simpa [Region.binds, and_assoc] using haft
          obtain ⟨rfl, rfl⟩ := hd
          subst e7
          clear hl haft
          have KB := Lib.hid hB'
          have KK := Lib.hid hblk
          clear hB' hblk
          go_simp
          exact hK _ _ ⟨l0, l1, l2, l3, true, l5, true, true, l8, l9, l10, l11, blk, rfl, rfl, KB.out, hL, KK.out⟩
        case o8 =>
          intro hl haft K hK
          have e8 : l8 = false := by simpa using hl
          have hd : l7 = true := by simpa [Region.binds, and_assoc] using haft
          subst hd
          subst e8
          clear hl haft
          obtain ⟨q0, q1, q2, q3, q4, q5, q6, q7⟩ := ((HH.out.below hB').sums.eight (show y + 1 ≤ n by omega))
          have KB := Lib.hid hB'
          have KK := Lib.hid hblk
          clear hB' hblk
          go_simp
          exact hK _ _ ⟨l0, l1, l2, l3, l4, l5, l6, true, true, l9, l10, l11, blk, rfl, rfl, KB.out, hL, KK.out⟩
        case o9 =>
          intro hl haft K hK
          have e9 : l9 = false := by simpa using hl
          have hd : l3 = true ∧ l8 = true := by simpa [Region.binds, and_assoc] using haft
          obtain ⟨rfl, rfl⟩ := hd
          subst e9
          clear hl haft
          have KB := Lib.hid hB'
          have KK := Lib.hid hblk
          clear hB' hblk
          go_simp
          gi_wp2_with (refine ⟨trivial, ?_⟩; gi_at_call 28; refine (CallsIn.inRound l (callsIn_wide.2 (HBt.out _))).mono ?_; rintro e W1 ⟨rfl, hb1⟩; have KB1 := Lib.hid hb1; clear hb1)
          exact ⟨l0, l1, l2, true, l4, l5, l6, l7, true, true, l10, l11, blk, rfl, rfl, (KB.out.trans (KB1.out.mono KB.out.size)), hL, (fun e => by obtain ⟨h1, h2⟩ := KK.out e; exact ⟨h1, h2.of_block (KB1.out.block _ h2.lt)⟩)⟩
        case o10 =>
          intro hl haft K hK
          have e10 : l10 = false := by simpa using hl
          subst e10
          obtain rfl : l11 = false := by cases l11 with | false => rfl | true => exact (hL rfl).symm
          clear hl haft
          have KB := Lib.hid hB'
          clear hB' hblk
          go_simp
          exact hK _ _ ⟨l0, l1, l2, l3, l4, l5, l6, l7, l8, l9, true, false, w'.heap.size, rfl, rfl, (KB.out.alloc KB.out.size _), (fun _ => rfl), (fun _ => ⟨KB.out.size, row_new w' (fun _ => 0) _⟩)⟩
        case o11 =>
          intro hl haft K hK
          have e11 : l11 = false := by simpa using hl
          have hd : l0 = true ∧ l1 = true ∧ l2 = true ∧ l3 = true ∧ l4 = true ∧ l5 = true ∧ l6 = true ∧ l7 = true ∧ l8 = true ∧ l9 = true ∧ l10 = true := by simp [Region.binds] at haft; simp [haft]
          obtain ⟨rfl, rfl, rfl, rfl, rfl, rfl, rfl, rfl, rfl, rfl, rfl⟩ := hd
          subst e11
          clear hl haft
          obtain ⟨hb1, hb2⟩ := hblk rfl
          obtain ⟨⟨c0, c1, c2, c3, c4, c5, c6, c7⟩, f0, f1, f2, f3, f4, f5, f6, f7⟩ := row_zero hb2
          have KR := Lib.hid hb2
          clear hb2
          have KB := Lib.hid hB'
          clear hB' hblk
          go_simp
          exact hK _ _ ⟨true, true, true, true, true, true, true, true, true, true, true, true, blk, rfl, rfl, (below_eight KB.out hb1), (fun _ => rfl), (fun _ => ⟨hb1, row_eight (z := way T x y) KR.out⟩)⟩
      case rdone =>
        rintro L a' w' ⟨l0, l1, l2, l3, l4, l5, l6, l7, l8, l9, l10, l11, blk, rfl, rfl, hB', -, hblk⟩ hr
        unfold Region.ready at hr
        rw [List.filter_eq_nil_iff] at hr
        obtain rfl : l0 = true := by
          have := hr 0 (List.mem_range.2 (by decide))
          simpa [Region.binds] using this
        obtain rfl : l1 = true := by
          have := hr 1 (List.mem_range.2 (by decide))
          simpa [Region.binds] using this
        obtain rfl : l2 = true := by
          have := hr 2 (List.mem_range.2 (by decide))
          simpa [Region.binds] using this
        obtain rfl : l3 = true := by
          have := hr 3 (List.mem_range.2 (by decide))
          simpa [Region.binds] using this
        obtain rfl : l4 = true := by
          have := hr 4 (List.mem_range.2 (by decide))
          simpa [Region.binds] using this
        obtain rfl : l5 = true := by
          have := hr 5 (List.mem_range.2 (by decide))
          simpa [Region.binds] using this
        obtain rfl : l6 = true := by
          have := hr 6 (List.mem_range.2 (by decide))
          simpa [Region.binds] using this
        obtain rfl : l7 = true := by
          have := hr 7 (List.mem_range.2 (by decide))
          simpa [Region.binds] using this
        obtain rfl : l8 = true := by
          have := hr 8 (List.mem_range.2 (by decide))
          simpa [Region.binds] using this
        obtain rfl : l9 = true := by
          have := hr 9 (List.mem_range.2 (by decide))
          simpa [Region.binds] using this
        obtain rfl : l10 = true := by
          have := hr 10 (List.mem_range.2 (by decide))
          simpa [Region.binds] using this
        obtain rfl : l11 = true := by
          have := hr 11 (List.mem_range.2 (by decide))
          simpa [Region.binds] using this
        obtain ⟨h1, h2⟩ := hblk rfl
        clear hr hblk
        simp only [cond_true]
        gi_wp2_with fail
        gi_meet
        exact ⟨blk, rfl, h1, hB', h2⟩
    case rest =>
    obtain ⟨blk, rfl, hblk, hB2, hrow⟩ := hcut
    have hH2 := HH.out.below hB2
    have d0 := hH2.dr0
    have d1 := hH2.dr1
    have d2 := hH2.cnt
    have hk1 : (k : Int) + 1 ≤ 8 := by omega
    have hkT : ((k : Int) + 1).toNat = k + 1 := by omega
    have hk2 : (0 : Int) ≤ (k : Int) + 1 := by omega
    have HA := Lib.hid (apart_any nm sk blk k 8 (way T x y) wc.drew (fun i hi => hrow.cell (by omega)) hk8 hm0 hm1 hs0 hs1 (fun i hi => way_bound HO.out hxy hyn hn))
    have KB2 := Lib.hid hB2
    clear hH2 hB2 hrow
    gi_wp2
    gi_cut [42] from 39 (fun v W3 => v = .bool (unf T (k + 1) nm sk x y) ∧ Below W.heap.size W W3)
    case first =>
      gi_region_with_o (refine ⟨trivial, ?_⟩; gi_at_call 29; refine (CallsIn.inRound l (callsIn_wide.2 HA.out)).mono ?_; rintro e W3 ⟨rfl, hb3⟩; have KB3 := Lib.hid hb3; clear hb3)
      all_goals
        gi_wp2_with fail
        gi_meet
        exact ⟨by rw [unf_extr hm0], KB2.out.drew.trans (KB3.out.mono KB2.out.size)⟩
    case rest =>
    obtain ⟨rfl, hB3⟩ := hcut
    have hR3 := HR.out.below hB3
    have c0 := hR3.c0
    have c1 := hR3.c1
    have c2 := hR3.c2
    have f0 := hR3.f0
    have f1 := hR3.f1
    have f2 := hR3.f2
    have KR3 := Lib.hid hR3
    have KH3 := Lib.hid (HH.out.below hB3)
    have KB3 := Lib.hid hB3
    clear hR3 hB3 q0 q1 q2 q3 q4 q5 q6 q7 r0 r1 r2 r3 r4 r5 r6 r7 HBt HA d0 d1 d2 KB2
    cases hu : unf T (k + 1) nm sk x y with
    | true =>
      gi_wp2
      exact ⟨(keeps_from KB3.out).trans (FRes.set_keeps.from _), ⟨rfl, pre, ⟨(x, y), hxy, hyn⟩, rfl, HP.out, unf_iff.1 hu, KR3.out.set x y false⟩, FRes.set_below (HB.out.trans (KB3.out.mono HB.out.size)) (Nat.le_refl _)⟩
    | false =>
      gi_wp2
      refine ⟨keeps_from KB3.out, trivial, ⟨fun p hp' => ?_, KR3.out, KH3.out⟩, HB.out.trans (KB3.out.mono HB.out.size)⟩
      rcases List.mem_append.1 hp' with h1 | h1
      · exact HP.out p h1
      · simp only [List.mem_singleton] at h1
        subst h1
        intro hc
        have := unf_iff.2 hc
        rw [show unf T (k + 1) nm sk x y = false from hu] at this
        cases this
  case done =>
    rintro D ys W hD hys ⟨⟨hne, hR, -⟩, hB⟩ hK
    have c0 := hR.c0
    have c1 := hR.c1
    have c2 := hR.c2
    have f0 := hR.f0
    have f1 := hR.f1
    have f2 := hR.f2
    have HR := Lib.hid (hR.set 0 0 true)
    have HB := Lib.hid hB
    have HN := Lib.hid hne
    have HY := Lib.hid hys
    have HK := Lib.hid (FRes.set_keeps (W := W) (a := w.heap.size) (u0 := .int .i64 0) (u1 := .int .i64 0) (u2 := .bool true) |>.same D _ hK rfl)
    clear hR hB hne hys hK hBw4 hR4 hH4 hcN
    gi_wp2
    refine ⟨by simp, .inl ⟨_, _, rfl, run_takeDeferred HK.out, ?_⟩⟩
    have hR5 := HR.out.own (grownBy_putObj' _ D (.deferred none)) (fun r e => by cases e; exact ⟨_, HK.out, rfl⟩)
    have e0 := hR5.c0
    have e1 := hR5.c1
    have e2 := hR5.c2
    refine ⟨fairV none, ?_, ?_, (FRes.set_below HB.out (Nat.le_refl _)).trans (belowK_b (w := w) (Nat.le_refl _) _ D _ _ (by omega) HK.out rfl rfl)⟩
    · simp [results, Try.f17, go_sem, e0, e1, e2, fairV]
    · rw [fst_none (fun p hp => by rw [← HY.out] at hp; obtain ⟨q, hq, rfl⟩ := List.mem_map.1 hp; exact HN.out q hq)]
  case stop =>
    rintro D e pre W hD hpre ⟨⟨rfl, ini, x, rfl, e2, e3, hR⟩, hB⟩ hK
    gi_wp2
    refine ⟨by simp, .inl ⟨_, _, rfl, run_takeDeferred hK, ?_⟩⟩
    have hR5 := hR.own (grownBy_putObj' _ D (.deferred none)) (fun r e => by cases e; exact ⟨_, hK, rfl⟩)
    have e0 := hR5.c0
    have e1 := hR5.c1
    have e2' := hR5.c2
    refine ⟨fairV (some x.1), ?_, ?_, hB.trans (belowK_b (w := w) (Nat.le_refl _) _ D _ _ (by omega) hK rfl rfl)⟩
    · obtain ⟨⟨x, y⟩, hx⟩ := x
      simp [results, Try.f17, go_sem, e0, e1, e2', fairV]
    · rw [fst_some (pre := ini.map Subtype.val) (x := x.1) (by simpa using hpre) (fun p hp => by obtain ⟨q, hq, rfl⟩ := List.mem_map.1 hp; exact e2 q hq) e3]
end Go.Proofs.Ytdkkoeiceaolnaa
