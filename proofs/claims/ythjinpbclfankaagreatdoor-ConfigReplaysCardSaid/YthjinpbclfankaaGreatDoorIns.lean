/-
  slices.BinarySearch, Insert, Delete at numbers of one's own, by contracts (the library's own, laid).
-/
import Derived.Test.YthjinpbclfankaaGreatDoorLaySea
import Derived.Test.YthjinpbclfankaaGreatDoorLayIns
import Derived.Test.YthjinpbclfankaaGreatDoorLayDel
import Derived.Test.YthjinpbclfankaaGreatDoorPc3
import Derived.Test.YthjinpbclfankaaGreatDoorSrv
namespace Go.Proofs.YthjinpbclfankaaGreatDoor
open Go.RowKit Go.Shelf

theorem search_any {w : World} {v : Value} {l : List Int} (h : InI w v l) (hne : l ≠ []) (hl : l.length ≤ 1000) (hs : srvOk (-1) l = true) (x : Int) :
    Calls Tryz.prog 66 #[v, .int .i64 x] w fun e w' => e = .returned (.tuple #[.int .i64 (posS l x : Nat), .bool (decide (x ∈ l))]) ∧ ∃ q, w' = w.drewN q := by
  obtain ⟨g, o, c, rfl, hg, hc⟩ := h.slice hne
  have h1 := Any.slices_BinarySearch_int laySea g o l.length c l x w (Nat.le_refl _) (by omega) (fun j hj => by
    have : l[j]? = some (l.getD j 0) := by simp [List.getD, List.getElem?_eq_getElem hj]
    exact hc j _ this) (by
    rw [List.take_length]
    exact ((srvOk_iff' _).1 hs).2.imp (fun h => by omega))
  refine h1.mono ?_
  rintro e w' ⟨rfl, hq⟩
  refine ⟨?_, hq⟩
  rw [List.take_length]
  have : l.contains x = decide (x ∈ l) := by simp
  rw [this]; rfl

/-! ### rows as cells -/
theorem owns_of {w : World} {base e g cap : Nat} {l : List Int} (hb : base ≤ g) (hrow : ∃ cur, w.heap[g]? = some (.cells cur e (0, 0)) ∧ cur.size = cap) (hn : l.length ≤ cap) (hm : cap ≤ maxLen) (hc : ∀ j x, l[j]? = some x → w.cell? ⟨g, j, none⟩ = some (.int .i64 x)) :
    w.ownsRow base e 1 (.slice (some ⟨g, 0, none⟩) l.length cap) l.length (l.map (Value.int .i64)) := by
  obtain ⟨cur, h1, h2⟩ := hrow
  refine ⟨by simp, .inr ⟨g, cap, cur, rfl, hb, h1, hn, hm, by omega, ?_⟩⟩
  apply List.ext_getElem?
  intro j
  rw [List.getElem?_take]
  by_cases hj : j < l.length
  · rw [if_pos (by omega), List.getElem?_map]
    obtain ⟨x, hx⟩ : ∃ x, l[j]? = some x := ⟨_, List.getElem?_eq_getElem hj⟩
    have h3 := hc j x hx
    rw [cell_of_row w g j cur _ _ h1] at h3
    rw [hx]
    simpa using h3
  · rw [if_neg (by omega), List.getElem?_map, List.getElem?_eq_none (by omega)]; rfl
theorem row_setCell {w : World} {g k cap e : Nat} (h : ∃ cur, w.heap[g]? = some (.cells cur e (0, 0)) ∧ cur.size = cap) (v : Value) : ∃ cur, (w.setCell ⟨g, k, none⟩ v).heap[g]? = some (.cells cur e (0, 0)) ∧ cur.size = cap := by
  obtain ⟨cur, h1, h2⟩ := h
  exact ⟨_, heap_setCell_same w g k cur e v h1, by simpa using h2⟩
theorem row_setCells {g cap e : Nat} : ∀ (vs : List Value) (o : Nat) (w : World) (_ : ∃ cur, w.heap[g]? = some (.cells cur e (0, 0)) ∧ cur.size = cap), ∃ cur, (w.setCells g o vs).heap[g]? = some (.cells cur e (0, 0)) ∧ cur.size = cap
  | [], _, _, h => h
  | v :: r, o, _, h => row_setCells r (o + 1) _ (row_setCell h v)
theorem grown_setCells (g : Nat) : ∀ (vs : List Value) (o : Nat) (w : World), w.grownBy (w.setCells g o vs) (some g)
  | [], _, _ => ⟨rfl, rfl, rfl, Nat.le_refl _, fun _ _ _ => rfl⟩
  | v :: r, o, w => by
    obtain ⟨a, b, c, d, e⟩ := grown_setCells g r (o + 1) (w.setCell ⟨g, o, none⟩ v)
    refine ⟨a, b, c, Nat.le_trans (by simp) d, fun k hk hne => ?_⟩
    rw [show w.setCells g o (v :: r) = (w.setCell ⟨g, o, none⟩ v).setCells g (o + 1) r from rfl, e k (by simpa using hk) hne]
    exact heap_setCell_other w ⟨g, o, none⟩ k v (fun e => hne (by rw [e]))
theorem grown_trans {w w1 w2 : World} {r : Option Nat} (h : w.grownBy w1 r) (h' : w1.grownBy w2 r) : w.grownBy w2 r :=
  ⟨h'.os.trans h.os, h'.tape.trans h.tape, h'.output.trans h.output, Nat.le_trans h.size h'.size, fun k hk hne => (h'.block k (Nat.lt_of_lt_of_le hk h.size) hne).trans (h.block k hk hne)⟩
theorem grown_below {w w' : World} (h : Below w.heap.size w w') (r : Option Nat) : w.grownBy w' r := ⟨h.os, h.tape, h.output, h.size, fun k hk _ => h.block k hk⟩
theorem map_get {l : List Int} {j : Nat} {v : Value} (h : (l.map (Value.int .i64))[j]? = some v) : ∃ x, l[j]? = some x ∧ v = .int .i64 x := by
  rw [List.getElem?_map] at h
  obtain ⟨x, hx, rfl⟩ := Option.map_eq_some_iff.1 h
  exact ⟨x, hx, rfl⟩
theorem ins_get {l : List Int} {i : Nat} {x y : Int} (hi : i ≤ l.length) {j : Nat} (h : (l.take i ++ x :: l.drop i)[j]? = some y) : (j < i ∧ l[j]? = some y) ∨ (j = i ∧ y = x) ∨ (i < j ∧ (l.drop i)[j - (i + 1)]? = some y) := by
  have hlt : (l.take i).length = i := by rw [List.length_take]; omega
  rw [List.getElem?_append] at h
  by_cases h1 : j < i
  · rw [hlt, if_pos h1, List.getElem?_take, if_pos h1] at h
    exact .inl ⟨h1, h⟩
  · rw [hlt, if_neg h1] at h
    by_cases h2 : j = i
    · subst h2
      simp at h
      exact .inr (.inl ⟨rfl, h.symm⟩)
    · obtain ⟨d, hd⟩ : ∃ d, j - i = d + 1 := ⟨j - i - 1, by omega⟩
      rw [hd, List.getElem?_cons_succ] at h
      exact .inr (.inr ⟨by omega, by rw [show j - (i + 1) = d by omega]; exact h⟩)
theorem ins_len {l : List Int} {i : Nat} {x : Int} (hi : i ≤ l.length) : (l.take i ++ x :: l.drop i).length = l.length + 1 := by rw [List.length_append, List.length_cons, List.length_take, List.length_drop]; omega
/-- A row that has grown, with one more in its midst. -/
theorem grow_owns {w : World} {B i cp : Nat} {l : List Int} {x : Int} (Z : Array Value) (hZs : Z.size = cp) (hZc : ∀ (j : Nat) (y : Int), j < i → l[j]? = some y → Z[j]? = some (.int .i64 y)) (hi : i ≤ l.length) (hB : B ≤ w.heap.size) (hgc : l.length + 1 ≤ cp) (hgm : cp ≤ maxLen) :
    OwnsI ((((w.alloc (.cells Z 3)).drew.setCells w.heap.size i [.int .i64 x]).drew).setCells w.heap.size (i + 1) ((l.map (Value.int .i64)).drop i)) B (.slice (some ⟨w.heap.size, 0, none⟩) (l.length + 1) cp) (l.take i ++ x :: l.drop i)
      ∧ Below w.heap.size w ((((w.alloc (.cells Z 3)).drew.setCells w.heap.size i [.int .i64 x]).drew).setCells w.heap.size (i + 1) ((l.map (Value.int .i64)).drop i)) := by
  constructor
  · unfold OwnsI
    rw [show l.length + 1 = (l.take i ++ x :: l.drop i).length from (ins_len hi).symm]
    have hr0 : (w.alloc (.cells Z 3)).heap[w.heap.size]? = some (.cells Z 3 (0, 0)) := heap_alloc_new w _
    have hr : ∃ cur, (w.alloc (.cells Z 3)).heap[w.heap.size]? = some (.cells cur 3 (0, 0)) ∧ cur.size = cp := ⟨Z, hr0, hZs⟩
    have hz : ∀ k, k < cp → ((w.alloc (.cells Z 3)).drew.cell? ⟨w.heap.size, k, none⟩).isSome = true := fun k hk => by
      show ((w.alloc (.cells Z 3)).cell? ⟨w.heap.size, k, none⟩).isSome = true
      rw [cell_of_row _ _ k _ _ _ hr0]
      simp; omega
    refine owns_of hB (row_setCells _ _ _ (row_setCells _ _ _ hr)) (by rw [ins_len hi]; exact hgc) hgm fun j y hj => ?_
    rcases ins_get hi hj with ⟨h1, h2⟩ | ⟨rfl, rfl⟩ | ⟨h1, h2⟩
    · rw [World.cell?_setCells_out _ _ _ _ _ (fun _ _ => .inl (by show j < _; omega))]
      show (World.setCells _ _ _ _).cell? _ = _
      rw [World.cell?_setCells_out _ _ _ _ _ (fun _ _ => .inl (by show j < _; omega))]
      show (w.alloc (.cells Z 3)).cell? _ = _
      rw [cell_of_row _ _ j _ _ _ hr0]
      exact hZc j y h1 h2
    · rw [World.cell?_setCells_out _ _ _ _ _ (fun _ _ => .inl (by show j < _; omega))]
      have := World.cell?_setCells_in w.heap.size [.int .i64 y] j ((w.alloc (.cells Z 3)).drew) (fun k hk => hz _ (by simp at hk; omega)) 0 (by simp)
      exact this
    · have hd : (j - (i + 1)) < ((l.map (Value.int .i64)).drop i).length := by
        have := (List.getElem?_eq_some_iff.1 h2).1
        simpa using this
      have := World.cell?_setCells_in w.heap.size ((l.map (Value.int .i64)).drop i) (i + 1) (((w.alloc (.cells Z 3)).drew.setCells w.heap.size i [.int .i64 x]).drew) (fun k hk => Go.Proofs.isSome_setCells _ _ _ _ (fun t ht => hz _ (by simp at ht; omega)) _ (hz _ (by simp at hk; omega))) (j - (i + 1)) hd
      rw [show i + 1 + (j - (i + 1)) = j by omega] at this
      rw [this, ← List.getElem?_eq_getElem hd, ← List.map_drop, List.getElem?_map, h2]; rfl
  · have b1 : Below w.heap.size w ((w.alloc (.cells Z 3)).drew) := ((Below.refl _ _).alloc (Nat.le_refl _) _).drew
    have b2 := Below.grown b1 (grown_setCells w.heap.size [.int .i64 x] i ((w.alloc (.cells Z 3)).drew)) b1.size (fun k hk => by cases hk; exact Nat.le_refl _)
    have b3 := b2.drew
    exact Below.grown b3 (grown_setCells w.heap.size _ (i + 1) _) b3.size (fun k hk => by cases hk; exact Nat.le_refl _)
set_option maxHeartbeats 1000000 in
theorem insert_any {w : World} {B vb i : Nat} {v : Value} {l : List Int} {x : Int} (ho : OwnsI w B v l) (hne : l ≠ []) (hl : l.length ≤ 1000) (hi : i ≤ l.length) (hB : B ≤ w.heap.size)
    (hx : w.heap[vb]? = some (.cells #[.int .i64 x] 3 (0, 0))) (hvb : v.ownBlock ≠ some vb) :
    Calls Tryz.prog 67 #[v, .int .i64 (i : Int), .slice (some ⟨vb, 0, none⟩) 1 1] w fun e w' => ∃ v', e = .returned v' ∧ OwnsI w' B v' (l.take i ++ x :: l.drop i) ∧ w.grownBy w' v.ownBlock ∧ (∀ k, v'.ownBlock = some k → v.ownBlock = some k ∨ w.heap.size ≤ k) := by
  have ho' := ho
  rcases ho'.2 with ⟨-, h0⟩ | ⟨g, cap, cur, rfl, hb, hg, hn, hm, hsz, ht⟩
  · exact absurd (List.length_eq_zero_iff.1 h0) hne
  have hlen : (l.take i ++ x :: l.drop i).length = l.length + 1 := by rw [List.length_append, List.length_cons, List.length_take, List.length_drop]; omega
  have hgv : g ≠ vb := fun e => hvb (by rw [← e]; rfl)
  have hcell : ∀ (j : Nat) (y : Int), l[j]? = some y → w.cell? ⟨g, j, none⟩ = some (.int .i64 y) := fun j y hj => by
    obtain ⟨A, c, e, hh⟩ := ho.inI
    simp only [Value.slice.injEq] at e
    obtain ⟨rfl, -, -⟩ := e
    obtain ⟨g2, o2, e2, -, h3⟩ := hh j y hj
    simp only [Option.some.injEq, Addr.mk.injEq, and_true] at e2
    obtain ⟨rfl, rfl⟩ := e2
    simpa using h3
  have hrow : ∃ cur, w.heap[g]? = some (.cells cur 3 (0, 0)) ∧ cur.size = cap := ⟨cur, hg, by omega⟩
  have hfz : ∀ j, w.frozen? ⟨g, j, none⟩ = false := fun j => by unfold World.frozen?; simp only [hg]; simp
  have hcs : ∀ j v, (l.map (Value.int .i64))[j]? = some v → w.cell? ⟨g, 0 + j, none⟩ = some v := fun j v hj => by
    obtain ⟨y, hy, rfl⟩ := map_get hj
    rw [Nat.zero_add]; exact hcell j y hy
  have hvs : ∀ j v, [Value.int .i64 x][j]? = some v → w.cell? ⟨vb, 0 + j, none⟩ = some v := fun j v hj => by
    cases j with
    | zero => simp at hj; subst hj; rw [cell_of_row w vb (0 + 0) _ _ _ hx]; rfl
    | succ j => simp at hj
  have h1v : ∀ v ∈ [Value.int .i64 x], v.oneCell' = true := fun v hv => by simp at hv; subst hv; rfl
  have hsp : ∀ j, j < cap → (w.cell? ⟨g, 0 + j, none⟩).isSome = true := fun j hj => by
    rw [cell_of_row w g (0 + j) cur _ _ hg]
    simp; omega
  have hm' : cap ≤ 9223372036854775807 := by unfold maxLen at hm; exact hm
  by_cases hroom : l.length + 1 ≤ cap
  · by_cases hin : i < l.length
    · refine (Any2.slices_Insert_int_shift layIns g 0 l.length cap i vb 0 1 1 (l.map (Value.int .i64)) [.int .i64 x] w hin (by omega) hroom hm' (fun e => hgv e.symm) (by simp) rfl hcs (fun j hj => hsp j (by omega)) (fun j _ => hfz _) hvs (ints_one _) h1v 3 3 1 cap (by unfold World.shape?; rw [hx]; rfl) (by unfold World.shape?; rw [hg]; simp; omega) (by omega) (by unfold World.frozen?; simp only [hx]; simp) (by unfold World.frozen?; simp only [hx]; simp)).mono ?_
      rintro e w' ⟨rfl, rfl⟩
      refine ⟨_, rfl, ?_, ?_, fun k hk => .inl hk⟩
      · unfold OwnsI
        rw [show l.length + 1 = (l.take i ++ x :: l.drop i).length from hlen.symm]
        refine owns_of hb (row_setCells _ _ _ (row_setCells _ _ _ hrow)) (by omega) hm fun j y hj => ?_
        have hz : ∀ k, k < cap → (w.drew.cell? ⟨g, k, none⟩).isSome = true := fun k hk => by have := hsp k hk; rw [Nat.zero_add] at this; exact this
        rcases ins_get hi hj with ⟨h1, h2⟩ | ⟨rfl, rfl⟩ | ⟨h1, h2⟩
        · rw [World.cell?_setCells_out _ _ _ _ _ (fun _ _ => .inl (by show j < _; omega)), World.cell?_setCells_out _ _ _ _ _ (fun _ _ => .inl (by show j < _; omega))]
          exact hcell j y h2
        · have := World.cell?_setCells_in g [.int .i64 y] (0 + j) (w.drew.setCells g (0 + (j + 1)) ((l.map (Value.int .i64)).drop j)) (fun k hk => Go.Proofs.isSome_setCells _ _ _ _ (fun t ht => hz _ (by simp at ht; omega)) _ (hz _ (by simp at hk; omega))) 0 (by simp)
          simpa using this
        · rw [World.cell?_setCells_out _ _ _ _ _ (fun _ _ => .inr (by show 0 + i + 1 ≤ j; omega))]
          have hd : (j - (i + 1)) < ((l.map (Value.int .i64)).drop i).length := by
            have := (List.getElem?_eq_some_iff.1 h2).1
            simpa using this
          have := World.cell?_setCells_in g ((l.map (Value.int .i64)).drop i) (0 + (i + 1)) w.drew (fun k hk => hz _ (by simp at hk; omega)) (j - (i + 1)) hd
          rw [show 0 + (i + 1) + (j - (i + 1)) = j by omega] at this
          rw [this, ← List.getElem?_eq_getElem hd, ← List.map_drop, List.getElem?_map, h2]; rfl
      · exact grown_trans (grown_trans (grown_below ((Below.refl _ _).drew) _) (grown_setCells g _ _ _)) (grown_setCells g _ _ _)
    · obtain rfl : i = l.length := by omega
      refine (Any2.slices_Insert_int_end_room layIns g 0 l.length cap vb 0 1 1 [.int .i64 x] w (by omega) hroom hm' rfl (fun j hj => by rw [Nat.add_assoc]; exact hsp _ (by omega)) (fun j _ => hfz _) hvs h1v).mono ?_
      rintro e w' ⟨rfl, rfl⟩
      refine ⟨_, rfl, ?_, grown_setCells g _ _ _, fun k hk => .inl hk⟩
      unfold OwnsI
      rw [show l.length + 1 = (l.take l.length ++ x :: l.drop l.length).length from hlen.symm]
      refine owns_of hb (row_setCells _ _ _ hrow) (by omega) hm fun j y hj => ?_
      rcases ins_get hi hj with ⟨h1, h2⟩ | ⟨rfl, rfl⟩ | ⟨h1, h2⟩
      · rw [World.cell?_setCells_out _ _ _ _ _ (fun _ _ => .inl (by show j < _; omega))]
        exact hcell j y h2
      · have := World.cell?_setCells_in g [.int .i64 y] (0 + l.length) w (fun k hk => by rw [Nat.add_assoc]; exact hsp _ (by simp at hk; omega)) 0 (by simp)
        simpa using this
      · simp at h2
  · have hgc := grownCap_ge w (l.length + 1) cap 3
    have hgm := grownCap_le_maxLen w (l.length + 1) cap 3 (by unfold maxLen; omega)
    by_cases hin : i < l.length
    · have h1 := Any2.slices_Insert_int_grow layIns g 0 l.length cap i vb 0 1 1 (l.map (Value.int .i64)) [.int .i64 x] w hin (by omega) hn (by omega) (by omega) (by simp) rfl hcs hvs (ints_one _) h1v
      rw [show layIns_ren.t 3 = 3 from rfl] at h1
      generalize hcp : grownCap w (l.length + 1) cap 3 = cp at hgc hgm h1
      refine h1.mono ?_
      rintro e w' ⟨rfl, rfl⟩
      obtain ⟨k1, k2⟩ := grow_owns (w := w) (B := B) (i := i) (cp := cp) (l := l) (x := x) (((l.map (Value.int .i64)).take i).toArray ++ Builtin.zeroCells (Value.int .i64 0).cells (l.length + 1 - i) ++ Builtin.zeroCells (Value.int .i64 0).cells (cp - (l.length + 1)))
        (by
          rw [Array.size_append, Array.size_append, size_zeroCells, size_zeroCells, List.size_toArray, List.length_take, List.length_map, show (Value.int .i64 0).cells.size = 1 from rfl]
          omega)
        (fun j y h1 h2 => by
          have hlt : j < (((l.map (Value.int .i64)).take i).toArray).size := by rw [List.size_toArray, List.length_take, List.length_map]; omega
          rw [Array.append_assoc, Array.getElem?_append_left hlt]
          rw [List.getElem?_toArray, List.getElem?_take, if_pos h1, List.getElem?_map, h2]; rfl) hi hB hgc hgm
      exact ⟨_, rfl, k1, grown_below k2 _, fun k hk => .inr (by simp [Value.ownBlock] at hk; omega)⟩
    · obtain rfl : i = l.length := by omega
      have h1 := (Any2.slices_Insert_int_end_grow layIns (some ⟨g, 0, none⟩) l.length cap vb 0 1 1 (l.map (Value.int .i64)) [.int .i64 x] w (by omega) hn (by omega) (by omega) (by simp) rfl (fun h => by cases h) (fun a ha j v hj => by cases ha; rw [Go.WideShapes.add_plain]; exact hcs j v hj) hvs h1v)
      rw [show layIns_ren.t 3 = 3 from rfl] at h1
      generalize hcp : grownCap w (l.length + 1) cap 3 = cp at hgc hgm h1
      refine h1.mono ?_
      rintro e w' ⟨rfl, rfl⟩
      refine ⟨_, rfl, ?_, grown_below (((Below.refl _ _).drew).alloc (Nat.le_refl _) _) _, fun k hk => .inr (by simp [Value.ownBlock] at hk; omega)⟩
      have hr0 := heap_alloc_new w.drew (Obj.cells (((l.map (Value.int .i64)) ++ [Value.int .i64 x]).toArray ++ Builtin.zeroCells (Value.int .i64 0).cells (cp - (l.length + 1))) 3)
      have key := owns_of (w := w.drew.alloc (Obj.cells (((l.map (Value.int .i64)) ++ [Value.int .i64 x]).toArray ++ Builtin.zeroCells (Value.int .i64 0).cells (cp - (l.length + 1))) 3)) (base := B) (g := w.heap.size) (cap := cp) (e := 3) (l := l.take l.length ++ x :: l.drop l.length) hB ⟨_, hr0, by
        rw [Array.size_append, size_zeroCells, List.size_toArray, List.length_append, List.length_map, show (Value.int .i64 0).cells.size = 1 from rfl]
        simp; omega⟩ (by rw [hlen]; exact hgc) hgm fun j y hj => by
          have hjl : j < l.length + 1 := by have := (List.getElem?_eq_some_iff.1 hj).1; rw [hlen] at this; exact this
          have hc := cell_of_row _ _ j _ _ _ hr0
          refine hc.trans ?_
          rw [Array.getElem?_append_left (by simp; omega), List.getElem?_toArray]
          have e2 : l.map (Value.int .i64) ++ [Value.int .i64 x] = (l.take l.length ++ x :: l.drop l.length).map (Value.int .i64) := by simp
          rw [e2, List.getElem?_map, hj]; rfl
      unfold OwnsI
      rw [hlen] at key ⊢
      exact key
theorem arr_get (L : List Int) (j : Nat) (y : Int) (h : L[j]? = some y) : L.toArray[j]! = y := by
  obtain ⟨h1, h2⟩ := List.getElem?_eq_some_iff.1 h
  rw [getElem!_pos L.toArray j (by simpa using h1)]
  simpa using h2
open Go.Sort in
theorem delete_any {w : World} {B i : Nat} {v : Value} {l : List Int} (ho : OwnsI w B v l) (hne : l ≠ []) (hi : i < l.length) (hl : l.length ≤ 1000) :
    Calls Tryz.prog 68 #[v, .int .i64 (i : Int), .int .i64 ((i : Int) + 1)] w fun e w' => ∃ v', e = .returned v' ∧ OwnsI w' B v' (l.take i ++ l.drop (i + 1)) ∧ w.grownBy w' v.ownBlock ∧ v'.ownBlock = v.ownBlock := by
  have ho' := ho
  rcases ho'.2 with ⟨-, h0⟩ | ⟨g, cap, cur, rfl, hb, hg, hn, hm, hsz, ht⟩
  · exact absurd (List.length_eq_zero_iff.1 h0) hne
  have hlen : (l.take i ++ l.drop (i + 1)).length = l.length - 1 := by rw [List.length_append, List.length_take, List.length_drop]; omega
  have hcell : ∀ (j : Nat) (y : Int), l[j]? = some y → w.cell? ⟨g, j, none⟩ = some (.int .i64 y) := fun j y hj => by
    obtain ⟨A, c, e, hh⟩ := ho.inI
    simp only [Value.slice.injEq] at e
    obtain ⟨rfl, -, -⟩ := e
    obtain ⟨g2, o2, e2, -, h3⟩ := hh j y hj
    simp only [Option.some.injEq, Addr.mk.injEq, and_true] at e2
    obtain ⟨rfl, rfl⟩ := e2
    simpa using h3
  have hH : Holds (Value.int .i64) w g 0 l.toArray := fun j hj => by
    have hj' : j < l.length := by simpa using hj
    refine ⟨?_, by unfold World.frozen?; simp only [hg]; simp⟩
    rw [Nat.zero_add]
    refine hcell j _ ?_
    rw [List.getElem?_eq_getElem hj']
    simp [getElem!_pos, hj']
  have hm' : cap ≤ 9223372036854775807 := by unfold maxLen at hm; exact hm
  have h1 := Any.slices_Delete_int layDel g 0 cap i (i + 1) l w hH hn hm' (by omega) (by omega)
  rw [show (((i + 1 : Nat)) : Int) = (i : Int) + 1 by omega] at h1
  refine h1.mono ?_
  rintro e w' ⟨rfl, q, rfl⟩
  refine ⟨_, rfl, ?_, ?_, rfl⟩
  · unfold OwnsI
    have hll : l.length - (i + 1 - i) = (l.take i ++ l.drop (i + 1)).length := by omega
    rw [hll]
    have hd : (l.take i ++ l.drop (i + 1) ++ List.replicate (i + 1 - i) 0).toArray.size = l.toArray.size := by simp; omega
    refine owns_of hb ⟨putCells (Value.int .i64) 0 (l.take i ++ l.drop (i + 1) ++ List.replicate (i + 1 - i) 0).toArray cur, ?_, ?_⟩ (by omega) hm fun j y hj => ?_
    · show (putRow _ _ _ _ _).heap[g]? = _
      unfold putRow mapBlock
      simp only [Array.getElem?_modify, heap_ahead, hg]
      rfl
    · unfold putCells; simp; omega
    · have hjl := (List.getElem?_eq_some_iff.1 hj).1
      have := cell?_putRow (Value.int .i64) (Go.Sort.ahead w q) g 0 l.toArray _ (holds_ahead _ w q g 0 _ hH) hd j (by rw [hd]; simp; omega)
      rw [Nat.zero_add] at this
      refine this.trans ?_
      congr 2
      exact arr_get _ j y (by rw [List.getElem?_append_left hjl]; exact hj)
  · refine ⟨rfl, rfl, rfl, by simp, fun k hk hne => ?_⟩
    unfold putRow mapBlock
    simp only [Array.getElem?_modify, heap_ahead]
    rw [if_neg (fun e => hne (by rw [← e]; rfl))]
end Go.Proofs.YthjinpbclfankaaGreatDoor
