/-
  slices.SortFunc at alarms, by the document's order: a slice that the call owns is sorted in place.
-/
import Derived.Test.YtcanagecdniiiaaOrder
import Derived.Test.YtcanagecdniiiaaLay
import Derived.Shelf.SlSortCmp.NoneTotal
namespace Go.Proofs.Ytcanagecdniiiaa
open Go.RowKit Go.Sort

def encA (x : Al) : List Value := x.cells.toList
theorem encA_len (x : Al) : (encA x).length = 3 := rfl
theorem encA_one (x : Al) : ∀ v ∈ encA x, v.oneCell' = true := by
  intro v hv
  simp [encA] at hv
  rcases hv with rfl | rfl | rfl <;> rfl
theorem isAggA (w : World) : (isAgg 31).run Try.prog w = .ok true w := by kernel_rfl
theorem sizeOfA (w : World) : (Go.sizeOf 31).run Try.prog w = .ok 3 w := by kernel_rfl
theorem ltA (x y : Al) : ltOf cmpA x y = decide (x.lt y) := by
  unfold ltOf
  simp only [cmpA_lt]
theorem swoA : SWO (ltOf cmpA) :=
  ⟨fun x => by rw [ltA]; exact decide_eq_false (Al.lt_irrefl x),
   fun x y z h1 h2 => by
    rw [ltA, decide_eq_true_eq] at *
    exact Al.lt_trans h1 h2,
   fun x y z h1 h2 => by
    rw [ltA, decide_eq_false_iff_not] at *
    unfold Al.lt at *; omega⟩
theorem cmpLaysA (blk off size : Nat) (w : World) : CmpLays Try.prog 25 #[] encA 3 cmpA blk off size w :=
  fun _ _ _ _ x y => inOrder_any x y _

/-- The sort's flat row is the list's. -/
theorem flatK_eq (l : List Al) : (flatK encA 3 l.toArray).toList = flat l := by
  apply List.ext_getElem?
  intro t
  by_cases ht : t < l.length * 3
  · have hi : t / 3 < l.length := by omega
    have h1 : (flatK encA 3 l.toArray).toList[t]? = some ((flatK encA 3 l.toArray)[t]!) := by
      rw [Array.getElem?_toList, Array.getElem?_eq_getElem (by simpa using ht), getElem!_pos _ t (by simpa using ht)]
    rw [h1, get_flatK _ _ _ _ (by simpa using ht)]
    have h2 := flat_get l (t / 3) l[t / 3] (List.getElem?_eq_getElem hi) (t % 3) (by omega)
    rw [show t / 3 * 3 + t % 3 = t by omega] at h2
    rw [h2]
    have e : l.toArray[t / 3]! = l[t / 3] := by rw [getElem!_pos l.toArray (t / 3) (by simpa using hi)]; rfl
    rw [e]
    have h3 : t % 3 < (encA l[t / 3]).length := by rw [encA_len]; omega
    rw [getElem!_pos (encA l[t / 3]) (t % 3) h3]
    exact (List.getElem?_eq_getElem (l := encA l[t / 3]) h3).symm
  · rw [List.getElem?_eq_none (l := flat l) (by rw [flat_length]; omega), List.getElem?_eq_none (by simp; omega)]
theorem holdsA {w : World} {g : Nat} {cur : Array Value} {e : TypeId} {l : List Al} (hb : w.heap[g]? = some (.cells cur e (0, 0))) (ht : cur.toList.take (l.length * 3) = flat l) : HoldsK encA 3 w g 0 l.toArray := by
  intro j hj
  have hj' : j < l.length * 3 := by simpa using hj
  refine ⟨?_, by simp [World.frozen?, hb]⟩
  have h1 : (cur.toList.take (l.length * 3))[j]? = (flatK encA 3 l.toArray).toList[j]? := by rw [ht, flatK_eq]
  rw [List.getElem?_take_of_lt hj'] at h1
  have hc : w.cell? ⟨g, 0 + j, none⟩ = cur[j]? := by
    rw [Nat.zero_add]
    exact cell_of_row w g j cur e (0, 0) hb
  rw [hc, ← Array.getElem?_toList, h1, Array.getElem?_toList, Array.getElem?_eq_getElem hj, getElem!_pos _ j hj]
  rfl
theorem heap_sortedA {w : World} {g n : Nat} {os : Array Obj} {cur : Array Value} {e : TypeId} {fr : Nat × Nat} (d : Array Al) (hb : w.heap[g]? = some (.cells cur e fr)) :
    (sortWorldK encA 3 w g 0 n d os).heap[g]? = some (.cells (putCells id 0 (flatK encA 3 d) cur) e fr) := by
  have hg : g < w.heap.size := (Array.getElem?_eq_some_iff.1 hb).1
  unfold sortWorldK putRowK
  rw [heap_grow_old _ _ (by simpa using hg)]
  simp [putRow, mapBlock, Sort.ahead, Array.getElem?_modify, hb, onCells]
theorem grown_sortedA {w : World} {g n : Nat} {os : Array Obj} (d : Array Al) : w.grownBy (sortWorldK encA 3 w g 0 n d os) (some g) := by
  unfold sortWorldK putRowK
  refine ⟨rfl, rfl, rfl, by simp, fun k hk hne => ?_⟩
  rw [heap_grow_old _ _ (by simpa using hk)]
  have : g ≠ k := fun e => hne (by rw [e])
  simp [putRow, mapBlock, Sort.ahead, Array.getElem?_modify, this]
theorem take_putA (cur : Array Value) (ts : List Al) (h : ts.length * 3 ≤ cur.size) : (putCells id 0 (flatK encA 3 ts.toArray) cur).toList.take (ts.length * 3) = flat ts := by
  rw [← flatK_eq]
  apply List.ext_getElem?
  intro j
  by_cases hj : j < ts.length * 3
  · rw [List.getElem?_take_of_lt hj, Array.getElem?_toList, Array.getElem?_toList]
    have hs : j < (flatK encA 3 ts.toArray).size := by simpa using hj
    have hc : j < cur.size := by omega
    rw [Array.getElem?_eq_getElem hs]
    simp only [putCells, Array.getElem?_mapIdx, Array.getElem?_eq_getElem hc, Option.map_some, Nat.zero_le, true_and, Nat.zero_add, Nat.sub_zero, hs, if_true, id]
    rw [getElem!_pos _ j hs]
  · rw [List.getElem?_take_eq_none (by omega), List.getElem?_eq_none (by simp; omega)]
/-- The sorted list, where it is known. -/
theorem merge_eq {l k : List Al} (hp : ∀ x, x ∈ l ↔ x ∈ k) (hn : l.Nodup) (hk : k.Pairwise Al.lt) : l.mergeSort (fun x y => !(ltOf cmpA) y x) = k ∧ k.length = l.length := by
  have hperm := List.mergeSort_perm l (fun x y => !(ltOf cmpA) y x)
  have hpw := List.pairwise_mergeSort (le := fun x y => !(ltOf cmpA) y x) (fun a b c h1 h2 => by
      simp only [ltA, Bool.not_eq_true', decide_eq_false_iff_not] at *
      unfold Al.lt at *; omega) (fun a b => by
      simp only [ltA, Bool.or_eq_true, Bool.not_eq_true', decide_eq_false_iff_not]
      unfold Al.lt; omega) l
  generalize l.mergeSort (fun x y => !(ltOf cmpA) y x) = m at hperm hpw
  have hmd : m.Nodup := hperm.nodup_iff.2 hn
  have e : m = k := by
    refine sorted_unique m k ?_ hk (fun x => (hperm.mem_iff).trans (hp x))
    have := List.Pairwise.and hpw hmd
    exact this.imp (fun {a b} h => by
      obtain ⟨h1, h2⟩ := h
      simp only [ltA, Bool.not_eq_true', decide_eq_false_iff_not] at h1
      rcases Decidable.em (a.lt b) with h | h
      · exact h
      · exact absurd (Al.total h h1) h2)
  exact ⟨e, by rw [← e]; exact hperm.length_eq⟩

set_option maxHeartbeats 1000000 in
theorem sort_any (base : Nat) (v : Value) (l k : List Al) (w : World) (ho : Owns 31 w base v l) (hp : ∀ x, x ∈ l ↔ x ∈ k) (hn : l.Nodup) (hk : k.Pairwise Al.lt) (hl : l.length ≤ 1000) :
    Calls Try.prog 24 #[v, .func (.func 25) #[] #[]] w fun e w' => e = .returned (.tuple #[]) ∧ Owns 31 w' base v k ∧ w.grownBy w' v.ownBlock := by
  obtain ⟨hmk, hlk⟩ := merge_eq hp hn hk
  rcases ho.2 with ⟨rfl, h0⟩ | ⟨g, cap, cur, rfl, hbase, hb, h1, h2, h3, h4⟩
  · obtain rfl := List.length_eq_zero_iff.1 h0
    obtain rfl : k = [] := List.length_eq_zero_iff.1 (by rw [hlk]; rfl)
    exact (AnyF.slices_SortFunc_none sortAl none 0 _ w).mono fun e w' ⟨he, hw⟩ => ⟨he, by rw [hw]; exact Owns.nil _ _ _, by rw [hw]; exact grown_refl _ _⟩
  · have eg : ∀ args w, (callFunc 25 args).run Try.prog w = .ok (.enter 25 args) w := enters_of Try.func25 (by kernel_rfl) rfl
    have hcon := AnyQ.slices_SortFunc_total sortAl 3 isAggA sizeOfA encA encA_len encA_one cmpA swoA 25 #[] g 0 cap l.toArray w eg (cmpLaysA _ _ _ _) (holdsA hb h4) (Array.getElem?_eq_some_iff.1 hb).1 (by simp; omega) (fun x y hx hy => by
      rw [ltA, decide_eq_false_iff_not] at hx hy
      exact Al.total hx hy)
    rw [List.toList_toArray, hmk] at hcon
    refine hcon.mono ?_
    rintro e w' ⟨rfl, n, os, rfl⟩
    refine ⟨rfl, ?_, grown_sortedA _⟩
    exact ⟨flat_length k, .inr ⟨g, cap, _, by rw [hlk], hbase, heap_sortedA _ hb, by omega, h2, by simp [putCells, h3], take_putA cur k (by omega)⟩⟩
end Go.Proofs.Ytcanagecdniiiaa
