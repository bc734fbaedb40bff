/-
  steps (package wire), by a contract: the list of Decode's closures, in memory of its own.
-/
import Derived.Test.YtjgicapjbibioaaDoorDec2
namespace Go.Proofs.YtjgicapjbibioaaDoor
open Go.RowKit Go.Lib Go.PlainAid

theorem infoFn : (Tryd.prog.info? 74).map (fun i => (i.zero, i.size, i.bytes)) = some (some .nilFunc, 1, 8) := by kernel_rfl

/-- Blocks that hold no functions are as they were. -/
def Keeps (w w' : World) : Prop := ∀ (k : Nat) (c : Array Value) (ty : TypeId) (fr : Nat × Nat), w.heap[k]? = some (Obj.cells c ty fr) → ty ≠ 74 → w'.heap[k]? = w.heap[k]?
theorem Keeps.refl (w : World) : Keeps w w := fun _ _ _ _ _ _ => rfl
theorem Keeps.trans {a b c : World} (h : Keeps a b) (h' : Keeps b c) : Keeps a c := fun k x ty fr hk ht => by
  have h1 := h k x ty fr hk ht
  exact (h' k x ty fr (by rw [h1]; exact hk) ht).trans h1
theorem blk_lt {w : World} {k : Nat} {o : Obj} (h : w.heap[k]? = some o) : k < w.heap.size := by
  rcases Nat.lt_or_ge k w.heap.size with h1 | h1
  · exact h1
  · simp [Array.getElem?_eq_none h1] at h
theorem Keeps.alloc (w : World) (o : Obj) : Keeps w (w.alloc o) := fun k _ _ _ hk _ => Below.heap_alloc w o k (blk_lt hk)
theorem Keeps.grown {w w' : World} {base n : Nat} {v : Value} {xs : List Value} (ho : w.ownsRow base 74 1 v n xs) (hg : w.grownBy w' v.ownBlock) : Keeps w w' := fun k c ty fr hk ht => by
  refine hg.block k (blk_lt hk) (fun e => ?_)
  obtain ⟨_, h | ⟨g, cap, cur, hv, _, hh, _⟩⟩ := ho
  · rw [h.1] at e; cases e
  · rw [hv] at e
    have e' : k = g := by injection e
    subst e'
    rw [hk] at hh
    injection hh with hh
    injection hh with _ hh
    exact ht hh

/-- What the list's closures lean on. -/
structure StA (w : World) (A B n : Nat) (zs : List Nat) (b R : Nat) : Prop where
  ha : w.heap[A]? = some (.cells #[.pointer (some ⟨b, 0, none⟩)] 51 (0, 0))
  hb : w.heap[B]? = some (.cells #[.pointer (some ⟨R, 0, none⟩)] 72 (0, 0))
  hn : w.heap[n]? = some (.cells (numCells b) 54 (0, 0))
  hz : ∀ (j z : Nat), zs[j]? = some z → w.heap[z]? = some (.cells #[.pointer (some ⟨b, j, none⟩), .int .i64 (wid j), .int .i64 (great j)] 54 (0, 0))
theorem StA.keep {w w' : World} {A B n b R : Nat} {zs : List Nat} (h : StA w A B n zs b R) (hk : Keeps w w') : StA w' A B n zs b R :=
  ⟨by rw [hk _ _ _ _ h.ha (by decide)]; exact h.ha, by rw [hk _ _ _ _ h.hb (by decide)]; exact h.hb, by rw [hk _ _ _ _ h.hn (by decide)]; exact h.hn, fun j z hz => by rw [hk _ _ _ _ (h.hz j z hz) (by decide)]; exact h.hz j z hz⟩
theorem StA.nat3 {w : World} {A B n b R : Nat} {zs : List Nat} (h : StA w A B n zs b R) : Nat3 w n b := by
  intro i hi
  rw [cells_at h.hn, cells_at h.hn, cells_at h.hn]
  match i, hi with
  | 0, _ => exact ⟨rfl, rfl, rfl⟩
  | 1, _ => exact ⟨rfl, rfl, rfl⟩
  | 2, _ => exact ⟨rfl, rfl, rfl⟩
  | 3, _ => exact ⟨rfl, rfl, rfl⟩
  | 4, _ => exact ⟨rfl, rfl, rfl⟩
  | 5, _ => exact ⟨rfl, rfl, rfl⟩
  | 6, _ => exact ⟨rfl, rfl, rfl⟩
/-- The closure of one number. -/
@[reducible] def fn1 (B z : Nat) : Value := .func (.func 52) #[] #[.pointer (some ⟨B, 0, none⟩), .pointer (some ⟨z, 0, none⟩)]

/-- Decode's list, as it lies in memory: ten closures, from block lo on. -/
structure Stp (w : World) (lo G A B : Nat) (zs : List Nat) (b R : Nat) : Prop where
  len : zs.length = 7
  c1 : ∀ (j z : Nat), zs[j]? = some z → w.cell? ⟨G, j, none⟩ = some (fn1 B z)
  o1 : ∀ (j z : Nat), zs[j]? = some z → One3 w z b j
  c7 : w.cell? ⟨G, 7, none⟩ = some (.func (.func 54) #[] #[.pointer (some ⟨B, 0, none⟩), .pointer (some ⟨A, 0, none⟩)])
  c8 : w.cell? ⟨G, 8, none⟩ = some (.func (.func 56) #[.pointer (some ⟨R, 0, none⟩)] #[])
  c9 : w.cell? ⟨G, 9, none⟩ = some (.func (.func 57) #[] #[.pointer (some ⟨A, 0, none⟩)])
  cA : w.cell? ⟨A, 0, none⟩ = some (.pointer (some ⟨b, 0, none⟩))
  cB : w.cell? ⟨B, 0, none⟩ = some (.pointer (some ⟨R, 0, none⟩))
  lG : lo ≤ G
  lA : lo ≤ A
  lB : lo ≤ B
  lz : ∀ (j z : Nat), zs[j]? = some z → lo ≤ z
theorem cell_fr {w w' : World} {b R k o : Nat} {v : Value} (hf : Fr b (some R) w w') (h1 : k ≠ b) (h2 : k ≠ R) (h : w.cell? ⟨k, o, none⟩ = some v) : w'.cell? ⟨k, o, none⟩ = some v := by
  rw [World.cell?_of_block (w := w) (a := ⟨k, o, none⟩) (hf.block k (cell_lt h) h1 (by simpa using h2))]; exact h
theorem Stp.fr {w w' : World} {lo G A B b R : Nat} {zs : List Nat} (h : Stp w lo G A B zs b R) (hf : Fr b (some R) w w') (hb : b < lo) (hR : R < lo) : Stp w' lo G A B zs b R := by
  have l1 := h.lG
  have l2 := h.lA
  have l3 := h.lB
  exact ⟨h.len, fun j z hz => cell_fr hf (by omega) (by omega) (h.c1 j z hz), fun j z hz => (h.o1 j z hz).fr hf (by have := h.lz j z hz; omega) (by have := h.lz j z hz; simp; omega),
    cell_fr hf (by omega) (by omega) h.c7, cell_fr hf (by omega) (by omega) h.c8, cell_fr hf (by omega) (by omega) h.c9, cell_fr hf (by omega) (by omega) h.cA, cell_fr hf (by omega) (by omega) h.cB, l1, l2, l3, h.lz⟩

set_option maxRecDepth 100000 in
set_option maxHeartbeats 4000000 in
theorem steps_any (b R : Nat) (w : World) :
    Calls Tryd.prog 31 #[.pointer (some ⟨b, 0, none⟩), .pointer (some ⟨R, 0, none⟩)] w fun e w' => ∃ G cap A B zs, e = .returned (.slice (some ⟨G, 0, none⟩) 10 cap) ∧ Stp w' w.heap.size G A B zs b R ∧ Below w.heap.size w w' := by
  obtain ⟨i0, hi, hz0, hz1, hz2⟩ := info_parts infoFn
  go_enter Tryd.func31, Tryd.ntmps31
  go_wp2_with fail
  go_at_call 18
  refine (numbers_any _ _).mono ?_
  rintro e w1 ⟨rfl, hw1⟩
  have HA := Lib.hid (show StA w1 w.heap.size (w.heap.size + 1) (w.heap.size + 2) [] b R from by
    subst hw1
    refine ⟨?_, ?_, ?_, fun j z hz => by simp at hz⟩
    · rw [Below.heap_alloc _ _ _ (by simp; omega)]
      exact (Below.heap_alloc _ _ _ (by simp)).trans (heap_alloc_new w _)
    · rw [Below.heap_alloc _ _ _ (by simp)]
      have := heap_alloc_new (w.alloc (.cells #[.pointer (some ⟨b, 0, none⟩)] 51)) (.cells #[.pointer (some ⟨R, 0, none⟩)] 72)
      have e : (w.alloc (.cells #[.pointer (some ⟨b, 0, none⟩)] 51)).heap.size = w.heap.size + 1 := by simp
      rw [e] at this
      exact this
    · have := heap_alloc_new (((w.alloc (.cells #[.pointer (some ⟨b, 0, none⟩)] 51)).alloc (.cells #[.pointer (some ⟨R, 0, none⟩)] 72)).drew) (.cells (numCells b) 54)
      have e : (((w.alloc (.cells #[.pointer (some ⟨b, 0, none⟩)] 51)).alloc (.cells #[.pointer (some ⟨R, 0, none⟩)] 72)).drew).heap.size = w.heap.size + 2 := by simp
      rw [e] at this
      exact this)
  have HB := Lib.hid (show Below w.heap.size w w1 from by
    subst hw1
    exact ((((Below.refl _ _).alloc (Nat.le_refl _) _).alloc (by simp) _).drew).alloc (by simp; omega) _)
  have hzz : ((w.alloc (.cells #[.pointer (some ⟨b, 0, none⟩)] 51)).alloc (.cells #[.pointer (some ⟨R, 0, none⟩)] 72)).heap.size = w.heap.size + 2 := by simp
  rw [hzz]
  clear hw1 hzz
  go_wp2
  go_loopw [5, 12] (fun s iv wr => ∃ (i : Nat) (zs : List Nat), i ≤ 7 ∧ iv = .int .i64 i ∧ zs.length = i ∧ StA wr w.heap.size (w.heap.size + 1) (w.heap.size + 2) zs b R ∧ (∀ (j z : Nat), zs[j]? = some z → w.heap.size ≤ z) ∧ wr.ownsRow w.heap.size 74 1 s i (zs.map (fn1 (w.heap.size + 1))) ∧ Below w.heap.size w wr) (fun _ iv _ => 7 - (intOf iv).toNat)
  case atStart => exact ⟨0, [], by omega, rfl, rfl, HA.out, fun j z hz => by simp at hz, World.ownsRow_nil _ _ _ _, HB.out⟩
  case round =>
    obtain ⟨i, zs, hi7, rfl, hzl, hA, hlz, hown, hb⟩ := hrel
    clear HA HB
    have hbz := hb.size
    by_cases hlt : i < 7
    · obtain ⟨c0, c1, c2⟩ := hA.nat3 i hlt
      have hiI : (i : Int) < 7 := by omega
      have hi0 : (0 : Int) ≤ (i : Int) := by omega
      have hnl := blk_lt hA.hn
      have HAz := Lib.hid (show StA (wr.alloc (.cells #[.pointer (some ⟨b, i, none⟩), .int .i64 (wid i), .int .i64 (great i)] 54)) w.heap.size (w.heap.size + 1) (w.heap.size + 2) (zs ++ [wr.heap.size]) b R from by
        have h1 := hA.keep (Keeps.alloc wr (.cells #[.pointer (some ⟨b, i, none⟩), .int .i64 (wid i), .int .i64 (great i)] 54))
        refine ⟨h1.ha, h1.hb, h1.hn, fun j z hz => ?_⟩
        rcases Nat.lt_or_ge j zs.length with hj | hj
        · rw [List.getElem?_append_left hj] at hz; exact h1.hz j z hz
        · rw [List.getElem?_append_right hj] at hz
          obtain rfl : j = i := by
            rcases Nat.lt_or_ge (j - zs.length) 1 with h | h
            · omega
            · simp [List.getElem?_eq_none (show ([wr.heap.size] : List Nat).length ≤ j - zs.length from h)] at hz
          simp [hzl] at hz
          subst hz
          exact heap_alloc_new wr _)
      have HOWN := Lib.hid ((hown.alloc (.cells #[.pointer (some ⟨b, i, none⟩), .int .i64 (wid i), .int .i64 (great i)] 54)).alloc (.cells #[fn1 (w.heap.size + 1) wr.heap.size] 74))
      have HB := Lib.hid (show Below w.heap.size w ((wr.alloc (.cells #[.pointer (some ⟨b, i, none⟩), .int .i64 (wid i), .int .i64 (great i)] 54)).alloc (.cells #[fn1 (w.heap.size + 1) wr.heap.size] 74)) from (hb.alloc hbz _).alloc (by simp; omega) _)
      have HLZ := Lib.hid hlz
      have HZL := Lib.hid hzl
      clear hA hown hb hlz hzl
      go_wp2_with (at_builtin; refine wpList_append_own _ rfl (.tmp 16) (.tmp 18) 70 rfl w.heap.size 74 i0 .nilFunc 1 8 Tryd.underlying70 hi hz0 hz1 hz2 rfl (by decide) _ _ _ rfl HOWN.out ⟨wr.heap.size + 1, 0, none⟩ 1 1 [fn1 (w.heap.size + 1) wr.heap.size] rfl rfl ?c1 ?c2 ?c3 ?c4 ?c5 ?_)
      case c1 =>
        intro j u hj
        match j, hj with
        | 0, hj => simp at hj; subst hj; simp [Addr.add]
      case c2 => intro u hu; simp at hu; subst hu; rfl
      case c3 => unfold maxLen; omega
      case c4 => omega
      case c5 => simp; omega
      · intro v' w2 hown2 hgrow _
        have HG := Lib.hid (HAz.out.keep ((Keeps.alloc _ _).trans (Keeps.grown HOWN.out hgrow)))
        have HB2 := Lib.hid (Below.grown HB.out hgrow (by simp; omega) (fun k hk => (HOWN.out.lt k hk).1))
        have HO2 := Lib.hid hown2
        clear HAz HOWN HB hown2 hgrow
        go_wp2
        go_roundw
        case rel =>
          refine ⟨i + 1, zs ++ [wr.heap.size], by omega, by go_num, by simp [HZL.out], HG.out, fun j z hz => ?_, by simpa using HO2.out, HB2.out⟩
          rcases Nat.lt_or_ge j zs.length with hj | hj
          · rw [List.getElem?_append_left hj] at hz; exact HLZ.out j z hz
          · rw [List.getElem?_append_right hj] at hz
            have hm := List.mem_of_getElem? hz
            simp at hm
            omega
        case measure => simp [intOf]; omega
    · obtain rfl : i = 7 := by omega
      have hiI : ¬ ((7 : Nat) : Int) < 7 := by omega
      have cA := cells_at hA.ha 0
      have cB := cells_at hA.hb 0
      simp at cA cB
      have HAz := Lib.hid hA
      have HOWN := Lib.hid (hown.alloc (.cells #[.func (.func 54) #[] #[.pointer (some ⟨w.heap.size + 1, 0, none⟩), .pointer (some ⟨w.heap.size, 0, none⟩)], .func (.func 56) #[.pointer (some ⟨R, 0, none⟩)] #[], .func (.func 57) #[] #[.pointer (some ⟨w.heap.size, 0, none⟩)]] 74))
      have HB := Lib.hid (show Below w.heap.size w (wr.alloc (.cells #[.func (.func 54) #[] #[.pointer (some ⟨w.heap.size + 1, 0, none⟩), .pointer (some ⟨w.heap.size, 0, none⟩)], .func (.func 56) #[.pointer (some ⟨R, 0, none⟩)] #[], .func (.func 57) #[] #[.pointer (some ⟨w.heap.size, 0, none⟩)]] 74)) from hb.alloc hbz _)
      have HLZ := Lib.hid hlz
      have HZL := Lib.hid hzl
      clear hA hown hb hlz hzl
      go_wp2_with (at_builtin; refine wpList_append_own _ rfl (.tmp 22) (.tmp 27) 70 rfl w.heap.size 74 i0 .nilFunc 1 8 Tryd.underlying70 hi hz0 hz1 hz2 rfl (by decide) _ _ _ rfl HOWN.out ⟨wr.heap.size, 0, none⟩ 3 3 [.func (.func 54) #[] #[.pointer (some ⟨w.heap.size + 1, 0, none⟩), .pointer (some ⟨w.heap.size, 0, none⟩)], .func (.func 56) #[.pointer (some ⟨R, 0, none⟩)] #[], .func (.func 57) #[] #[.pointer (some ⟨w.heap.size, 0, none⟩)]] rfl rfl ?e1 ?e2 ?e3 ?e4 ?e5 ?_)
      case e2 => exact ⟨rfl, rfl, rfl⟩
      case e3 => unfold maxLen; omega
      case e5 => omega
      · intro v' w2 hown2 hgrow _
        have HG := Lib.hid (HAz.out.keep ((Keeps.alloc _ _).trans (Keeps.grown HOWN.out hgrow)))
        have HB2 := Lib.hid (Below.grown HB.out hgrow (by simp; omega) (fun k hk => (HOWN.out.lt k hk).1))
        have HO2 := Lib.hid hown2
        clear HAz HOWN HB hown2 hgrow
        go_wp2
        go_ret
        rcases owned_form HO2.out with ⟨_, h, _⟩ | ⟨g, cap, hv, hcell⟩
        · simp at h
        · subst hv
          have hgl : w.heap.size ≤ g := (HO2.out.lt g rfl).1
          have hn : ∀ j, 7 ≤ j → (List.map (fn1 (w.heap.size + 1)) zs).length ≤ j := fun j hj => by simp [HZL.out, hj]
          have hl : (List.map (fn1 (w.heap.size + 1)) zs).length = 7 := by simp [HZL.out]
          refine ⟨g, cap, w.heap.size, w.heap.size + 1, zs, rfl, ⟨HZL.out, fun j z hz => ?_, fun j z hz => ?_, ?_, ?_, ?_, ?_, ?_, hgl, Nat.le_refl _, by omega, HLZ.out⟩, HB2.out⟩
          · refine hcell j _ ?_
            have hj := (List.getElem?_eq_some_iff.1 hz).1
            rw [List.getElem?_append_left (by simpa using hj), List.getElem?_map, hz]; rfl
          · have h := HG.out.hz j z hz
            exact ⟨by rw [cells_at h]; rfl, by rw [cells_at h]; rfl⟩
          · exact hcell 7 _ (by rw [List.getElem?_append_right (hn 7 (by omega)), hl]; rfl)
          · exact hcell 8 _ (by rw [List.getElem?_append_right (hn 8 (by omega)), hl]; rfl)
          · exact hcell 9 _ (by rw [List.getElem?_append_right (hn 9 (by omega)), hl]; rfl)
          · rw [cells_at HG.out.ha]; rfl
          · rw [cells_at HG.out.hb]; rfl
end Go.Proofs.YtjgicapjbibioaaDoor
