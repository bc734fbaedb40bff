/-
  New (package quorum), by a contract.
-/
import Derived.Test.YtkcbmkedhipgeaaGreatDoorPq9
import Derived.Deep.DrawnRows
namespace Go.Proofs.YtkcbmkedhipgeaaGreatDoor
open Go.RowKit Go.ChangeMaps

section
variable {P : Program}
/-- What append answers, and the world that it leaves. -/
def appV (P : Program) (t : TypeId) (w : World) (v x : Value) : Value := match (Builtin.append_ #[t, t] t #[v, x]).run P w with
  | .ok u _ => u
  | _ => undef
def appW (P : Program) (t : TypeId) (w : World) (v x : Value) : World := match (Builtin.append_ #[t, t] t #[v, x]).run P w with
  | .ok _ w' => w'
  | _ => w
def AppS (P : Program) (t : TypeId) (w : World) (v x : Value) : Prop := (Builtin.append_ #[t, t] t #[v, x]).run P w = .ok (appV P t w v x) (appW P t w v x)
theorem app_of {t : TypeId} {w w' : World} {v x u : Value} (h : (Builtin.append_ #[t, t] t #[v, x]).run P w = .ok u w') : AppS P t w v x ∧ appV P t w v x = u ∧ appW P t w v x = w' := by
  unfold AppS appV appW
  rw [h]
  exact ⟨rfl, rfl, rfl⟩
theorem wp_appL {d : Option Tmp} {s x : Operand} {t : TypeId} {pos : String} {after : Array Edge} {g : Option (Nat × Bool)} {a : Act} {w : World} {K : Act → World → Prop} {Q : Exit → Act → World → Prop} (h : AppS P t w (a.eval s) (a.eval x)) :
    Oper.wp P { dst := d, op := .call { callee := .builtin .append, args := #[s, x], argTypes := #[t, t] }, type := t, pos := pos, after := after, guard := g } a w K Q = K (a.put d (appV P t w (a.eval s) (a.eval x))) (appW P t w (a.eval s) (a.eval x)) := by
  unfold AppS at h
  unfold Oper.wp execOp
  simp only [resolve, invoke, builtin, Sem.run_bind, Sem.run_pure, Result.andThen_ok, List.map_toArray, List.map_cons, List.map_nil, h]
  rfl
end
theorem infoPn : (Tryz.prog.info? 58).map (fun i => (i.zero, i.size, i.bytes)) = some (some (.pointer none), 1, 8) := by kernel_rfl
/-- A pointer is appended to pointers in a row of their own. -/
theorem append_ptr (w : World) (base : Nat) (v : Value) (n : Nat) (xs : List Value) (hown : w.ownsRow base 58 1 v n xs) (b : Nat) (hn : n ≤ 1000) (hbase : base ≤ w.heap.size) :
    ∃ g cap w2, (Builtin.append_ #[55, 55] 55 #[v, .slice (some ⟨w.heap.size, 0, none⟩) 1 1]).run Tryz.prog (w.alloc (.cells #[.pointer (some ⟨b, 0, none⟩)] 58)) = .ok (.slice (some ⟨g, 0, none⟩) (n + 1) cap) w2 ∧
      w2.ownsRow base 58 1 (.slice (some ⟨g, 0, none⟩) (n + 1) cap) (n + 1) (xs ++ [.pointer (some ⟨b, 0, none⟩)]) ∧ (w.alloc (.cells #[.pointer (some ⟨b, 0, none⟩)] 58)).grownBy w2 v.ownBlock ∧ (v.ownBlock = some g ∨ g = w.heap.size + 1) := by
  obtain ⟨i0, hi0, hz0, hz1, hz2⟩ := info_parts infoPn
  have hba : Below w.heap.size w (w.alloc (.cells #[.pointer (some ⟨b, 0, none⟩)] 58)) := (Below.refl _ w).alloc (Nat.le_refl _) _
  obtain ⟨g, cap, w2, h1, h2, h3, h4, -⟩ := run_append_lies (P := Tryz.prog) (w.alloc (.cells #[.pointer (some ⟨b, 0, none⟩)] 58)) 55 55 base 58 i0 _ 1 8 Tryz.underlying55 hi0 hz0 hz1 hz2 rfl (by omega) v n xs (ownsRow_kept hown fun g hg => hba.block g (World.ownsRow.lt hown g hg).2)
    ⟨w.heap.size, 0, none⟩ 1 1 [.pointer (some ⟨b, 0, none⟩)] rfl (fun q u hu => World.news_of_block (cs := #[.pointer (some ⟨b, 0, none⟩)]) (t := 58) (fr := (0, 0)) (heap_alloc_new w _) q u hu) (fun u hu => by simp at hu; subst hu; rfl) (by omega) (by unfold maxLen; omega) (by omega) (by simp; omega) (w.heap.size + 1) (by simp)
  exact ⟨g, cap, w2, h1, h2, h3, h4⟩
/-- So many nodes' pointers. -/
def ptrs (nds : Nat → Nat) (j : Nat) : List Value := (List.range j).map fun i => .pointer (some ⟨nds i, 0, none⟩)
theorem ptrs_len (nds : Nat → Nat) (j : Nat) : (ptrs nds j).length = j := by simp [ptrs]
theorem ptrs_more (nds : Nat → Nat) (j b : Nat) : ptrs nds j ++ [.pointer (some ⟨b, 0, none⟩)] = ptrs (at1 nds j b) (j + 1) := by
  unfold ptrs
  rw [List.range_succ, List.map_append, List.map_cons, List.map_nil, at1_same]
  congr 1
  refine List.map_congr_left fun i hi => ?_
  have : i < j := List.mem_range.1 hi
  rw [at1_other _ _ (by omega)]
def newC (a : Nat) : Array Value := #[.pointer (some ⟨a, 0, none⟩), .string ⟨#[]⟩, .slice none 0 0, .int .i64 0]
/-- A group of so many nodes so far. -/
structure NG (w : World) (B gb mb j : Nat) (v : Value) (nds ac : Nat → Nat) : Prop where
  grp : w.heap[gb]? = some (.cells #[v, .map (some mb)] 57 (0, 0))
  map : w.heap[mb]? = some (.map #[] 0)
  row : w.ownsRow B 58 1 v j (ptrs nds j)
  cs : ∀ i, i < j → w.heap[nds i]? = some (.cells (newC (ac i)) 62 (0, 0))
  acc : ∀ i, i < j → PA w (ac i) Acc.new
  lo : ∀ i, i < j → B ≤ nds i ∧ B ≤ ac i
  ne : ∀ i k, i < j → k < j → i ≠ k → nds i ≠ nds k ∧ ac i ≠ ac k
theorem NG.keep {w w' : World} {B gb mb j : Nat} {v : Value} {nds ac : Nat → Nat} (h : NG w B gb mb j v nds ac) (hb : Below w.heap.size w w') : NG w' B gb mb j v nds ac := by
  have hk : ∀ (b : Nat) (o : Obj), w.heap[b]? = some o → w'.heap[b]? = some o := fun b o ho => (hb.block b (lt_of ho)).trans ho
  exact ⟨hk _ _ h.grp, hk _ _ h.map, ownsRow_kept h.row fun g hg => hb.block g (World.ownsRow.lt h.row g hg).2, fun i hi => hk _ _ (h.cs i hi), fun i hi => (h.acc i hi).keptTy fun b cs t f ho _ => hk _ _ ho, h.lo, h.ne⟩
theorem NG.more {w wz w3 : World} {B gb mb j a g cap : Nat} {v : Value} {nds ac : Nat → Nat} (h : NG w B gb mb j v nds ac) (hb : Below w.heap.size w wz) (ha : PA wz a Acc.new) (hal : w.heap.size ≤ a) (hB : B ≤ w.heap.size)
    (hg : ((wz.alloc (.cells (newC a) 62 (0, 0))).alloc (.cells #[.pointer (some ⟨wz.heap.size, 0, none⟩)] 58)).grownBy w3 v.ownBlock)
    (hown : w3.ownsRow B 58 1 (.slice (some ⟨g, 0, none⟩) (j + 1) cap) (j + 1) (ptrs nds j ++ [.pointer (some ⟨wz.heap.size, 0, none⟩)])) :
    NG (w3.setCell ⟨gb, 0, none⟩ (.slice (some ⟨g, 0, none⟩) (j + 1) cap)) B gb mb (j + 1) (.slice (some ⟨g, 0, none⟩) (j + 1) cap) (at1 nds j wz.heap.size) (at1 ac j a) := by
  have hN := heap_alloc_new wz (.cells (newC a) 62 (0, 0))
  have hz := h.keep hb
  have hb1 : Below wz.heap.size wz (wz.alloc (.cells (newC a) 62 (0, 0))) := (Below.refl _ wz).alloc (Nat.le_refl _) _
  have hb2 : Below (wz.alloc (.cells (newC a) 62 (0, 0))).heap.size (wz.alloc (.cells (newC a) 62 (0, 0))) ((wz.alloc (.cells (newC a) 62 (0, 0))).alloc (.cells #[.pointer (some ⟨wz.heap.size, 0, none⟩)] 58)) := (Below.refl _ _).alloc (Nat.le_refl _) _
  have hN2 := (hb2.block _ (lt_of hN)).trans hN
  have hz1 := (hz.keep hb1).keep hb2
  have ha2 : PA ((wz.alloc (.cells (newC a) 62 (0, 0))).alloc (.cells #[.pointer (some ⟨wz.heap.size, 0, none⟩)] 58)) a Acc.new := ha.keptTy fun b cs t f ho _ => (hb2.block _ (Nat.lt_of_lt_of_le (lt_of ho) hb1.size)).trans ((hb1.block _ (lt_of ho)).trans ho)
  have hsz : wz.heap.size < ((wz.alloc (.cells (newC a) 62 (0, 0))).alloc (.cells #[.pointer (some ⟨wz.heap.size, 0, none⟩)] 58)).heap.size := by simp; omega
  generalize ((wz.alloc (.cells (newC a) 62 (0, 0))).alloc (.cells #[.pointer (some ⟨wz.heap.size, 0, none⟩)] 58)) = w2 at *
  -- what is not the pointers' row, nor the group's block, stays
  have hk : ∀ (b : Nat) (cs : Array Value) (t : TypeId) (f : Nat × Nat), t ≠ 58 → w2.heap[b]? = some (Obj.cells cs t f) → w3.heap[b]? = some (Obj.cells cs t f) := fun b cs t f ht hbb => (hg.block b (lt_of hbb) (fun e => by
    obtain ⟨cur, h3⟩ := owns_type hz1.row e.symm
    rw [hbb] at h3
    injection h3 with h3
    injection h3 with _ h4
    exact ht h4)).trans hbb
  have hg3 := hk _ _ _ _ (by decide) hz1.grp
  have hkg : ∀ (b : Nat) (o : Obj), b ≠ gb → w3.heap[b]? = some o → (w3.setCell ⟨gb, 0, none⟩ (.slice (some ⟨g, 0, none⟩) (j + 1) cap)).heap[b]? = some o := fun b o hne ho => by rw [Below.heap_setCell _ _ _ _ hne]; exact ho
  have hgrp := heap_setCell hg3 0 (.slice (some ⟨g, 0, none⟩) (j + 1) cap)
  have hkA : ∀ (b : Nat) (cs : Array Value) (t : TypeId) (f : Nat × Nat), t ≠ 58 → t ≠ 57 → w2.heap[b]? = some (Obj.cells cs t f) → (w3.setCell ⟨gb, 0, none⟩ (.slice (some ⟨g, 0, none⟩) (j + 1) cap)).heap[b]? = some (Obj.cells cs t f) := fun b cs t f ht hq ho => hkg b _ (fun e => by
    rw [e, hz1.grp] at ho
    injection ho with ho
    injection ho with _ h4
    exact hq h4.symm) (hk _ _ _ _ ht ho)
  have hPA : ∀ i, PA w2 i Acc.new → PA (w3.setCell ⟨gb, 0, none⟩ (.slice (some ⟨g, 0, none⟩) (j + 1) cap)) i Acc.new := fun i hi => hi.keptTy fun b cs t f ho ht => by
    have ht' : t = 103 ∨ t = 75 := by simpa using ht
    rcases ht' with e | e
    · subst e; exact hkA b cs _ f (by decide) (by decide) ho
    · subst e; exact hkA b cs _ f (by decide) (by decide) ho
  have hmap : w3.heap[mb]? = some (.map #[] 0) := (hg.block _ (lt_of hz1.map) (fun e => by
    obtain ⟨cur, h3⟩ := owns_type hz1.row e.symm
    rw [hz1.map] at h3
    cases h3)).trans hz1.map
  have hlt : ∀ i, i < j → nds i < w.heap.size ∧ ac i < w.heap.size := fun i hi => ⟨lt_of (h.cs i hi), (h.acc i hi).pc.lt⟩
  refine ⟨hgrp, hkg _ _ (fun e => by rw [e, hg3] at hmap; cases hmap) hmap, ?_, fun i hi => ?_, fun i hi => ?_, fun i hi => ?_, fun i k hi hk' hne => ?_⟩
  · rw [← ptrs_more]
    refine ownsRow_kept hown fun b hb => ?_
    obtain ⟨cur, h3⟩ := owns_type hown hb
    rw [Below.heap_setCell _ _ _ _ (fun e => by
      have e' : b = gb := e
      rw [e', hg3] at h3
      injection h3 with h3
      injection h3 with _ h4
      exact absurd h4 (by decide))]
  · by_cases e : i = j
    · subst e
      rw [at1_same, at1_same]
      exact hkA _ _ _ _ (by decide) (by decide) hN2
    · rw [at1_other _ _ e, at1_other _ _ e]
      exact hkA _ _ _ _ (by decide) (by decide) (hz1.cs i (by omega))
  · by_cases e : i = j
    · subst e; rw [at1_same]; exact hPA _ ha2
    · rw [at1_other _ _ e]; exact hPA _ (hz1.acc i (by omega))
  · by_cases e : i = j
    · subst e; rw [at1_same, at1_same]; exact ⟨Nat.le_trans hB hb.size, Nat.le_trans hB hal⟩
    · rw [at1_other _ _ e, at1_other _ _ e]; exact h.lo i (by omega)
  · have := hb.size
    by_cases e : i = j
    · subst e
      have := hlt k (by omega)
      rw [at1_same, at1_same, at1_other _ _ (Ne.symm hne), at1_other _ _ (Ne.symm hne)]
      exact ⟨by omega, by omega⟩
    · by_cases e' : k = j
      · subst e'
        have := hlt i (by omega)
        rw [at1_same, at1_same, at1_other _ _ e, at1_other _ _ e]
        exact ⟨by omega, by omega⟩
      · rw [at1_other _ _ e, at1_other _ _ e', at1_other _ _ e, at1_other _ _ e']
        exact h.ne i k (by omega) (by omega) hne
theorem NG.grpAt {w wz w3 : World} {B gb mb j a : Nat} {v : Value} {nds ac : Nat → Nat} (h : NG w B gb mb j v nds ac) (hb : Below w.heap.size w wz)
    (hg : ((wz.alloc (.cells (newC a) 62 (0, 0))).alloc (.cells #[.pointer (some ⟨wz.heap.size, 0, none⟩)] 58)).grownBy w3 v.ownBlock) : w3.cell? ⟨gb, 0, none⟩ = some v ∧ w3.frozen? ⟨gb, 0, none⟩ = false := by
  have hz := h.keep hb
  have hb1 : Below wz.heap.size wz ((wz.alloc (.cells (newC a) 62 (0, 0))).alloc (.cells #[.pointer (some ⟨wz.heap.size, 0, none⟩)] 58)) := ((Below.refl _ wz).alloc (Nat.le_refl _) _).alloc (by simp) _
  have hz1 := hz.keep hb1
  generalize ((wz.alloc (.cells (newC a) 62 (0, 0))).alloc (.cells #[.pointer (some ⟨wz.heap.size, 0, none⟩)] 58)) = w2 at *
  have hg3 := (hg.block gb (lt_of hz1.grp) (fun e => by
    obtain ⟨cur, h3⟩ := owns_type hz1.row e.symm
    rw [hz1.grp] at h3
    injection h3 with h3
    injection h3 with _ h4
    exact absurd h4 (by decide))).trans hz1.grp
  exact ⟨by rw [cell_at hg3]; rfl, free_at hg3 0⟩
theorem NG.cellAt {w : World} {B gb mb j : Nat} {v : Value} {nds ac : Nat → Nat} (h : NG w B gb mb j v nds ac) : w.cell? ⟨gb, 0, none⟩ = some v := by rw [cell_at h.grp]; rfl
theorem fresh1 (wz : World) (a : Nat) : Below wz.heap.size wz (wz.alloc (.cells #[.pointer (some ⟨a, 0, none⟩), .string ⟨#[]⟩, .slice none 0 0, .int .i64 0] 62 (0, 0))) := (Below.refl _ wz).alloc (Nat.le_refl _) _
theorem fresh2 (wz : World) (a : Nat) : Below (wz.alloc (.cells #[.pointer (some ⟨a, 0, none⟩), .string ⟨#[]⟩, .slice none 0 0, .int .i64 0] 62 (0, 0))).heap.size (wz.alloc (.cells #[.pointer (some ⟨a, 0, none⟩), .string ⟨#[]⟩, .slice none 0 0, .int .i64 0] 62 (0, 0))) ((wz.alloc (.cells #[.pointer (some ⟨a, 0, none⟩), .string ⟨#[]⟩, .slice none 0 0, .int .i64 0] 62 (0, 0))).alloc (.cells #[.pointer (some ⟨wz.heap.size, 0, none⟩)] 58)) := (Below.refl _ _).alloc (Nat.le_refl _) _
theorem append_two (wz : World) (a base : Nat) (v : Value) (n : Nat) (xs : List Value) (hown : wz.ownsRow base 58 1 v n xs) (hn : n ≤ 1000) (hbase : base ≤ wz.heap.size) :
    ∃ g cap w3, (Builtin.append_ #[55, 55] 55 #[v, .slice (some ⟨wz.heap.size + 1, 0, none⟩) 1 1]).run Tryz.prog ((wz.alloc (.cells #[.pointer (some ⟨a, 0, none⟩), .string ⟨#[]⟩, .slice none 0 0, .int .i64 0] 62 (0, 0))).alloc (.cells #[.pointer (some ⟨wz.heap.size, 0, none⟩)] 58)) = .ok (.slice (some ⟨g, 0, none⟩) (n + 1) cap) w3 ∧
      w3.ownsRow base 58 1 (.slice (some ⟨g, 0, none⟩) (n + 1) cap) (n + 1) (xs ++ [.pointer (some ⟨wz.heap.size, 0, none⟩)]) ∧ ((wz.alloc (.cells #[.pointer (some ⟨a, 0, none⟩), .string ⟨#[]⟩, .slice none 0 0, .int .i64 0] 62 (0, 0))).alloc (.cells #[.pointer (some ⟨wz.heap.size, 0, none⟩)] 58)).grownBy w3 v.ownBlock ∧ (v.ownBlock = some g ∨ g = wz.heap.size + 1 + 1) := by
  have hsz : (wz.alloc (.cells #[.pointer (some ⟨a, 0, none⟩), .string ⟨#[]⟩, .slice none 0 0, .int .i64 0] 62 (0, 0))).heap.size = wz.heap.size + 1 := by simp
  have hba : Below wz.heap.size wz (wz.alloc (.cells #[.pointer (some ⟨a, 0, none⟩), .string ⟨#[]⟩, .slice none 0 0, .int .i64 0] 62 (0, 0))) := (Below.refl _ wz).alloc (Nat.le_refl _) _
  have := append_ptr (wz.alloc (.cells #[.pointer (some ⟨a, 0, none⟩), .string ⟨#[]⟩, .slice none 0 0, .int .i64 0] 62 (0, 0))) base v n xs (ownsRow_kept hown fun g hg => hba.block g (World.ownsRow.lt hown g hg).2) wz.heap.size hn (by rw [hsz]; omega)
  rw [hsz] at this
  exact this
/-- A new group. -/
def Gp.start (n : Nat) : Gp := ⟨n, fun _ => Nd.new, [], fun _ => []⟩
theorem NG.done {w : World} {B gb mb n : Nat} {v : Value} {nds ac : Nat → Nat} (h : NG w B gb mb n v nds ac) (hn : 0 < n) (hm : B ≤ mb) : ∃ P, PG w gb (Gp.start n) P ∧ P.B = B := by
  rcases h.row.2 with ⟨_, h0⟩ | ⟨g, cap, cur, hv, hbg, hgg, _, _, hs, ht⟩
  · omega
  · have hgrp := h.grp
    rw [hv] at hgrp
    refine ⟨⟨B, g, cap, mb, [], 0, nds, ac, fun _ => .slice none 0 0, fun _ => ⟨#[]⟩⟩, ⟨hgrp, ⟨cur, hgg, fun i hi => ?_⟩, fun i hi => ⟨h.cs i hi, fun _ => h.acc i hi, (fun e => by cases e), Acc.Good.new, OwnsS.nil _ _, (h.lo i hi).1, fun _ => (h.lo i hi).2⟩, fun i j hi hj hne => (h.ne i j hi hj hne).1, fun i j hi hj hne _ _ => (h.ne i j hi hj hne).2, fun i j hi hj hne b hb => by simp [Value.ownBlock] at hb, ?_⟩, rfl⟩
    · have hc := h.row.cells (g := g) (by rw [hv]; rfl) i (.pointer (some ⟨nds i, 0, none⟩)) (by
        have hi' : i < n := hi
        simp [ptrs, hi'])
      have hadd : (⟨g, 0, none⟩ : Addr).add i = ⟨g, i, none⟩ := by unfold Addr.add; split <;> simp_all
      rw [hadd, cell_at hgg] at hc
      exact hc
    · exact ⟨⟨h.map, { lt := fun e he => (by cases he), keys := List.Pairwise.nil, ok := fun e he => (by cases he) }⟩, fun s b hb => by simp [blkO] at hb, fun s _ => rfl, fun s s' b hb => by simp [blkO] at hb, hm, fun s b hb => by simp [blkO] at hb⟩

attribute [local go_sem ↓] Go.wp_at_zero Go.wp_at_succ wp_appL

set_option maxRecDepth 100000 in
set_option maxHeartbeats 4000000 in
theorem new11_any (n : Int) (m : Nat) (w : World) (hm : min (max n 1) 5 = (m : Int)) (h0 : 0 < m) (h5 : m ≤ 5) :
    Calls Tryz.prog 11 #[.int .i64 n] w fun e w' => ∃ g P, e = .returned (.pointer (some ⟨g, 0, none⟩)) ∧ PG w' g (Gp.start m) P ∧ P.B = w.heap.size ∧ Below w.heap.size w w' := by
  have hb0 : Below w.heap.size w ((w.alloc (.map #[] 0)).alloc (.cells #[.slice none 0 0, .map (some w.heap.size)] 57 (0, 0))) := ((Below.refl _ _).alloc (Nat.le_refl _) _).alloc (by simp) _
  have HB0 := Lib.hid hb0
  have hg0 : NG ((w.alloc (.map #[] 0)).alloc (.cells #[.slice none 0 0, .map (some w.heap.size)] 57 (0, 0))) w.heap.size (w.heap.size + 1) w.heap.size 0 (.slice none 0 0) (fun _ => 0) (fun _ => 0) := by
    refine ⟨?_, ?_, World.ownsRow_nil _ _ _ _, fun i hi => by omega, fun i hi => by omega, fun i hi => by omega, fun i k hi => by omega⟩
    · have := heap_alloc_new (w.alloc (.map #[] 0)) (.cells #[.slice none 0 0, .map (some w.heap.size)] 57 (0, 0))
      simpa using this
    · have h1 : (w.alloc (.map #[] 0)).heap[w.heap.size]? = some (.map #[] 0) := (MapKept.heap_alloc w _).1
      have hb : Below (w.alloc (.map #[] 0)).heap.size (w.alloc (.map #[] 0)) ((w.alloc (.map #[] 0)).alloc (.cells #[.slice none 0 0, .map (some w.heap.size)] 57 (0, 0))) := (Below.refl _ _).alloc (Nat.le_refl _) _
      exact (hb.block _ (lt_of h1)).trans h1
  have HG0 := Lib.hid hg0
  have HM := Lib.hid hm
  have HNw := Lib.hid new_any
  have hmm := @run_makeMap Tryz.prog
  clear hb0 hg0 hm
  go_enter Tryz.func11, Tryz.ntmps11
  go_wp2
  rw [HM.out]
  go_loopw [10] (fun jv wr => ∃ (j : Nat) (v : Value) (nds ac : Nat → Nat), j ≤ m ∧ jv = .int .i64 j ∧ NG wr w.heap.size (w.heap.size + 1) w.heap.size j v nds ac ∧ Below w.heap.size w wr) (fun jv _ => m - (intOf jv).toNat)
  case atStart => exact ⟨0, _, _, _, Nat.zero_le _, rfl, HG0.out, HB0.out⟩
  case round =>
    obtain ⟨j, v, nds, ac, hj, rfl, hP, hK⟩ := hrel
    by_cases hlt : j < m
    · have hbd : Below wr.heap.size wr wr.drew := (Below.refl _ _).drew
      have hPd := hP.keep hbd
      have cd : wr.drew.cell? ⟨w.heap.size + 1, 0, none⟩ = some v := by rw [cell_at hPd.grp]; rfl
      have PD := Lib.hid hPd
      have KD := Lib.hid (show Below w.heap.size w wr.drew from hK.drew)
      have hlI : (j : Int) < (m : Int) := by omega
      clear hP hK HG0 HB0 hbd hPd
      go_wp2
      go_region_with (go_at_call 24; (with_reducible refine (HNw.out _).mono ?_); rintro e wz ⟨rfl, ha, kz, hsz⟩; (have cz := PD.out.keep kz |>.cellAt); (have cz1 := (PD.out.keep kz).keep (fresh1 wz wr.heap.size) |>.cellAt); (have cz2 := ((PD.out.keep kz).keep (fresh1 wz wr.heap.size)).keep (fresh2 wz wr.heap.size) |>.cellAt); (obtain ⟨g, cap, w3, hrun, hown, hgrow, hat⟩ := append_two wz wr.heap.size w.heap.size v j (ptrs nds j) (PD.out.keep kz).row (by omega) (by have := KD.out.size; have := kz.size; omega)); (obtain ⟨ha1, ha2, ha3⟩ := app_of hrun); clear hrun; (have hg3 := (PD.out.more kz ha (Nat.le_refl _) KD.out.size hgrow hown)); (have hcg : w3.cell? ⟨w.heap.size + 1, 0, none⟩ = some v ∧ w3.frozen? ⟨w.heap.size + 1, 0, none⟩ = false := PD.out.grpAt kz hgrow); (obtain ⟨hcg1, hcg2⟩ := hcg); (have hbb := KD.out.trans (kz.mono KD.out.size)); have HBB := Lib.hid hbb; have HG3 := Lib.hid hg3; have HGr := Lib.hid hgrow; clear hbb hg3 hgrow hown hat ha)
      all_goals
        go_wp2
        go_roundw
        case rel =>
          exact ⟨j + 1, _, _, _, by omega, by go_num, HG3.out, ((HBB.out.alloc HBB.out.size _).alloc (by have := HBB.out.size; simp; omega) _).grown HGr.out (by have := HBB.out.size; simp; omega) (fun k hk => (World.ownsRow.lt PD.out.row k hk).1) |>.setCell (p := ⟨w.heap.size + 1, 0, none⟩) (by simp) _⟩
        case measure => simp [intOf]; omega
    · obtain rfl : j = m := by omega
      have HPj := Lib.hid hP
      have HKj := Lib.hid hK
      have hlI : ¬ ((j : Int) < (j : Int)) := by omega
      clear hP hK HG0 HB0
      go_wp2
      go_ret
      obtain ⟨P, hp, hB⟩ := HPj.out.done h0 (Nat.le_refl _)
      exact ⟨_, rfl, P, hp, hB, HKj.out⟩
end Go.Proofs.YtkcbmkedhipgeaaGreatDoor
