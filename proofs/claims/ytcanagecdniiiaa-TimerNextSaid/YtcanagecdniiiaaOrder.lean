/-
  The document's order as the program has it: cmp.Compare and cmp.Or at numbers, inOrder (package timer), by contracts.
-/
import Derived.Test.YtcanagecdniiiaaPure
import Derived.Laws.NewBlocks
import Derived.Sort.Grow
import Derived.Shelf.GgSortFunc.InsertionK
namespace Go.Proofs.Ytcanagecdniiiaa
open Go.RowKit

def cmpI (x y : Int) : Int := if x < y then -1 else if y < x then 1 else 0
def orI (a b c : Int) : Int := if a ≠ 0 then a else if b ≠ 0 then b else c
def cmpA (x y : Al) : Int := orI (cmpI x.n y.n) (cmpI x.a y.a) (cmpI x.t y.t)
theorem cmpA_lt (x y : Al) : cmpA x y < 0 ↔ x.lt y := by
  unfold cmpA orI cmpI Al.lt
  repeat' split
  all_goals omega
theorem ret_i {a b : Int} (h : a = b) : Ending.returned (.int .i64 a) = .returned (.int .i64 b) := by rw [h]

theorem isNaN_any (x : Int) (w : World) :
    Calls Try.prog 46 #[.int .i64 x] w fun e w' => e = .returned (.bool false) ∧ w = w' := by
  go_enter Try.func46, Try.ntmps46
  go_wp2
  go_ret
  exact ⟨by simp, rfl⟩
set_option maxHeartbeats 1000000 in
theorem compare_any (x y : Int) (w : World) :
    Calls Try.prog 34 #[.int .i64 x, .int .i64 y] w fun e w' => e = .returned (.int .i64 (cmpI x y)) ∧ w = w' := by
  go_enter Try.func34, Try.ntmps34
  go_wp2_with (go_at_call 46; refine (isNaN_any _ _).mono ?_; rintro e w' ⟨rfl, rfl⟩)
  all_goals
    go_ret
    exact ⟨ret_i (by unfold cmpI; repeat' split; all_goals omega), rfl⟩
set_option maxHeartbeats 1000000 in
theorem or_any (g c : Nat) (x y z : Int) (w : World) (h0 : w.cell? ⟨g, 0, none⟩ = some (.int .i64 x)) (h1 : w.cell? ⟨g, 1, none⟩ = some (.int .i64 y)) (h2 : w.cell? ⟨g, 2, none⟩ = some (.int .i64 z)) :
    Calls Try.prog 33 #[.slice (some ⟨g, 0, none⟩) 3 c] w fun e w' => e = .returned (.int .i64 (orI x y z)) ∧ w = w' := by
  by_cases hx : x = 0
  · subst hx
    by_cases hy : y = 0
    · subst hy
      have e : orI 0 0 z = z := by simp [orI]
      rw [e]
      by_cases hz : z = 0
      · subst hz
        go_enter Try.func33, Try.ntmps33
        go_wp2
        go_rounds 4
        go_ret
        exact ⟨rfl, rfl⟩
      · have hz' : (z == 0) = false := by simpa using hz
        go_enter Try.func33, Try.ntmps33
        go_wp2
        go_rounds 3
        go_ret
        exact ⟨rfl, rfl⟩
    · have e : orI 0 y z = y := by simp [orI, hy]
      rw [e]
      have hy' : (y == 0) = false := by simpa using hy
      go_enter Try.func33, Try.ntmps33
      go_wp2
      go_rounds 2
      go_ret
      exact ⟨rfl, rfl⟩
  · have e : orI x y z = x := by simp [orI, hx]
    rw [e]
    have hx' : (x == 0) = false := by simpa using hx
    go_enter Try.func33, Try.ntmps33
    go_wp2
    go_rounds 1
    go_ret
    exact ⟨rfl, rfl⟩

/-- Two alarms in blocks of their own. -/
structure Six (w : World) (b c : Nat) (x y : Al) : Prop where
  h1 : At w b 0 x
  h2 : At w c 0 y
theorem Six.all {w : World} {b c : Nat} {x y : Al} (h : Six w b c x y) : w.cell? ⟨b, 0, none⟩ = some (.int .i64 x.n) ∧ w.cell? ⟨b, 1, none⟩ = some (.int .i64 x.a) ∧ w.cell? ⟨b, 2, none⟩ = some (.int .i64 x.t) ∧ w.cell? ⟨c, 0, none⟩ = some (.int .i64 y.n) ∧ w.cell? ⟨c, 1, none⟩ = some (.int .i64 y.a) ∧ w.cell? ⟨c, 2, none⟩ = some (.int .i64 y.t) :=
  ⟨h.h1.c0, h.h1.c1, h.h1.c2, h.h2.c0, h.h2.c1, h.h2.c2⟩
theorem At.lt {w : World} {g o : Nat} {m : Al} (h : At w g o m) : g < w.heap.size := World.block_lt_of_cell? w _ h.c0
theorem At.below {w w' : World} {g o : Nat} {m : Al} (h : At w g o m) (hb : Below w.heap.size w w') : At w' g o m :=
  ⟨(hb.cell (p := ⟨g, o, none⟩) h.lt).trans h.c0, (hb.cell (p := ⟨g, o + 1, none⟩) h.lt).trans h.c1, (hb.cell (p := ⟨g, o + 2, none⟩) h.lt).trans h.c2⟩
theorem At.fresh (w : World) (m : Al) (t : TypeId) : At (w.alloc (.cells m.cells t)) w.heap.size 0 m := by
  have h := heap_alloc_new w (.cells m.cells t)
  refine ⟨?_, ?_, ?_⟩ <;> (unfold World.cell?; simp only [h]; rfl)
theorem Six.start (w : World) (x y : Al) : Six ((w.alloc (.cells x.cells 31)).alloc (.cells y.cells 31)) w.heap.size (w.heap.size + 1) x y := by
  refine ⟨(At.fresh w x _).below ((Below.refl _ _).alloc (Nat.le_refl _) _), ?_⟩
  have := At.fresh (w.alloc (.cells x.cells 31)) y 31
  rwa [World.size_alloc] at this
theorem Six.alloc {w : World} {b c : Nat} {x y : Al} (h : Six w b c x y) (o : Obj) : Six (w.alloc o).drew b c x y :=
  ⟨h.h1.below (((Below.refl _ _).alloc (Nat.le_refl _) o).drew), h.h2.below (((Below.refl _ _).alloc (Nat.le_refl _) o).drew)⟩
theorem cells3 (w : World) (o1 o2 : Obj) (a b c : Int) (i : Nat) (v : Value) (h : (#[.int .i64 a, .int .i64 b, .int .i64 c] : Array Value)[i]? = some v) :
    (((w.alloc o1).alloc o2).alloc (.cells #[.int .i64 a, .int .i64 b, .int .i64 c] 3)).drew.cell? ⟨w.heap.size + 1 + 1, i, none⟩ = some v := by
  have e : ((w.alloc o1).alloc o2).heap.size = w.heap.size + 1 + 1 := by simp
  have := heap_alloc_new ((w.alloc o1).alloc o2) (.cells #[.int .i64 a, .int .i64 b, .int .i64 c] 3)
  rw [e] at this
  show World.cell? _ _ = _
  unfold World.cell?
  show (match (((w.alloc o1).alloc o2).alloc (.cells #[.int .i64 a, .int .i64 b, .int .i64 c] 3)).heap[w.heap.size + 1 + 1]? with | some (.cells cs _ _) => _ | _ => _) = _
  rw [this]
  simpa using h
set_option maxHeartbeats 4000000 in
theorem inOrder_any (x y : Al) (w : World) :
    Calls Try.prog 25 #[x.val, y.val] w fun e w' => e = .returned (.int .i64 (cmpA x y)) ∧ ∃ q os, w' = Sort.grow (w.drewN q) os := by
  unfold cmpA
  generalize h1 : cmpI x.n y.n = a
  generalize h2 : cmpI x.a y.a = b
  generalize h3 : cmpI x.t y.t = c
  go_enter Try.func25, Try.ntmps25
  go_wp2_with fail
  have q0 := Six.start w x y
  generalize hW : (w.alloc (.cells x.cells 31)).alloc (.cells y.cells 31) = W at q0
  have HS0 := Lib.hid (show Six W.drew w.heap.size (w.heap.size + 1) x y from ⟨q0.h1.below ((Below.refl _ _).drew), q0.h2.below ((Below.refl _ _).drew)⟩)
  have HS1 := Lib.hid (fun o => q0.alloc o)
  have HC := Lib.hid (hW ▸ cells3 w (.cells x.cells 31) (.cells y.cells 31) a b c)
  have hsz : W.heap.size = w.heap.size + 1 + 1 := by rw [← hW]; simp
  go_region_held3 (fun w' => w'.cell? ⟨w.heap.size, 0, none⟩ = some (.int .i64 x.n) ∧ w'.cell? ⟨w.heap.size, 1, none⟩ = some (.int .i64 x.a) ∧ w'.cell? ⟨w.heap.size, 2, none⟩ = some (.int .i64 x.t) ∧ w'.cell? ⟨w.heap.size + 1, 0, none⟩ = some (.int .i64 y.n) ∧ w'.cell? ⟨w.heap.size + 1, 1, none⟩ = some (.int .i64 y.a) ∧ w'.cell? ⟨w.heap.size + 1, 2, none⟩ = some (.int .i64 y.t))
    (first | exact HS0.out.all | exact (HS1.out _).all | fail)
    (first
      | (go_at_call 34; refine (compare_any _ _ _).mono ?_; rintro e w' ⟨rfl, rfl⟩; try rw [h1]; try rw [h2]; try rw [h3])
      | (go_at_call 33; refine (or_any (w.heap.size + 1 + 1) 3 a b c _ (HC.out 0 _ rfl) (HC.out 1 _ rfl) (HC.out 2 _ rfl)).mono ?_; rintro e w' ⟨rfl, rfl⟩)
      | fail)
  go_wp2
  go_ret
  exact ⟨rfl, 1, _, by rw [← hW, Sort.alloc_eq_grow, Sort.alloc_eq_grow, Sort.alloc_eq_grow, Sort.grow_grow, Sort.grow_grow]; rfl⟩
end Go.Proofs.Ytcanagecdniiiaa
