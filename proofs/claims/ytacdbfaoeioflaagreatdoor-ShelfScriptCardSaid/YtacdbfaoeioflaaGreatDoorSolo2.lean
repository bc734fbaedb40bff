/-
  Blocks in a row of their own.

  List (package shelf), by a contract: whatever order the map is ranged over in.

  List (package shelf), by a contract.

  Same (weirkeepref09), by a contract: are they the same blocks?

  A shelf alone beside blocks of one's own: List; what is new is one's own; a list of blocks that came in.
-/
import Derived.Test.YtacdbfaoeioflaaGreatDoorOpen9
import Derived.Test.YtacdbfaoeioflaaGreatDoorLayKeys
import Derived.Test.YtacdbfaoeioflaaGreatDoorLaySort
import Derived.Test.YtacdbfaoeioflaaGreatDoorLaySorted
import Derived.Test.YtacdbfaoeioflaaGreatDoorEqBk
import Derived.Test.YtacdbfaoeioflaaGreatDoorShown
namespace Go.Proofs.YtacdbfaoeioflaaGreatDoor
open Go.RowKit

/-! ### cells in a row -/
/-- The cells of blocks, one behind the other. -/
def bflat : List Bk → List Value
  | [] => []
  | x :: l => x.cells.toList ++ bflat l
theorem bflat_length (l : List Bk) : (bflat l).length = l.length * 3 := by
  induction l with
  | nil => rfl
  | cons m l ih => simp only [bflat, List.length_append, ih, List.length_cons]; simp; omega
theorem bflat_append (l k : List Bk) : bflat (l ++ k) = bflat l ++ bflat k := by
  induction l with
  | nil => rfl
  | cons m l ih => simp only [List.cons_append, bflat, ih, List.append_assoc]
theorem bflat_one (m : Bk) : bflat [m] = m.cells.toList := by simp [bflat]
theorem bflat_oneCell (l : List Bk) : ∀ u ∈ bflat l, u.oneCell' = true := by
  induction l with
  | nil => intro u hu; simp [bflat] at hu
  | cons m l ih =>
    intro u hu
    simp only [bflat, List.mem_append] at hu
    rcases hu with hu | hu
    · simp at hu
      rcases hu with rfl | rfl | rfl <;> rfl
    · exact ih u hu
theorem bflat_get (l : List Bk) (i : Nat) (m : Bk) (h : l[i]? = some m) (j : Nat) (hj : j < 3) : (bflat l)[i * 3 + j]? = m.cells.toList[j]? := by
  induction l generalizing i with
  | nil => simp at h
  | cons x l ih =>
    have hx : x.cells.toList.length = 3 := by simp
    cases i with
    | zero =>
      simp at h
      subst h
      rw [bflat, List.getElem?_append_left (by omega)]
      congr 1; omega
    | succ i =>
      simp at h
      rw [bflat, List.getElem?_append_right (by omega), hx]
      rw [show (i + 1) * 3 + j - 3 = i * 3 + j by omega]
      exact ih i h

/-- The block m lies at the place o of block g. -/
structure BAt (w : World) (g o : Nat) (m : Bk) : Prop where
  c0 : w.cell? ⟨g, o, none⟩ = some (.int .i64 m.id)
  c1 : w.cell? ⟨g, o + 1, none⟩ = some (.int .i64 m.ver)
  c2 : w.cell? ⟨g, o + 2, none⟩ = some (.string m.data)

/-- The slice v has the blocks l, in a row of its own from block 'base' on; e: their type. -/
def OwnsB (e : TypeId) (w : World) (base : Nat) (v : Value) (l : List Bk) : Prop := w.ownsRow base e 3 v l.length (bflat l)

theorem OwnsB.nil (e : TypeId) (w : World) (base : Nat) : OwnsB e w base (.slice none 0 0) [] := World.ownsRow_nil _ _ _ _
theorem OwnsB.kept {e : TypeId} {w w' : World} {base : Nat} {v : Value} {l : List Bk} (h : OwnsB e w base v l) (hb : ∀ g, v.ownBlock = some g → w'.heap[g]? = w.heap[g]?) : OwnsB e w' base v l := by
  refine ⟨h.1, ?_⟩
  rcases h.2 with hn | ⟨g, cap, cur, rfl, hbs, hgg, rest⟩
  · exact .inl hn
  · exact .inr ⟨g, cap, cur, rfl, hbs, by rw [hb g rfl]; exact hgg, rest⟩
theorem OwnsB.lt {e : TypeId} {w : World} {base : Nat} {v : Value} {l : List Bk} (h : OwnsB e w base v l) {g : Nat} (hg : v.ownBlock = some g) : base ≤ g ∧ g < w.heap.size := World.ownsRow.lt h g hg
theorem OwnsB.below {e : TypeId} {w w' : World} (hb : Below w.heap.size w w') {base : Nat} {v : Value} {l : List Bk} (h : OwnsB e w base v l) : OwnsB e w' base v l :=
  h.kept fun g hg => hb.block g (h.lt hg).2
theorem OwnsB.grown {e : TypeId} {w w' : World} {row : Option Nat} (hb : w.grownBy w' row) {base : Nat} {v : Value} {l : List Bk} (h : OwnsB e w base v l) (hne : ∀ g, v.ownBlock = some g → some g ≠ row) : OwnsB e w' base v l :=
  h.kept fun g hg => hb.block g (h.lt hg).2 (hne g hg)
theorem OwnsB.mono {e : TypeId} {w : World} {base base' : Nat} {v : Value} {l : List Bk} (h : OwnsB e w base v l) (hb : base' ≤ base) : OwnsB e w base' v l := by
  refine ⟨h.1, ?_⟩
  rcases h.2 with hn | ⟨g, cap, cur, rfl, hbs, rest⟩
  · exact .inl hn
  · exact .inr ⟨g, cap, cur, rfl, by omega, rest⟩
/-- What it looks like: nothing, or a row whose blocks lie one behind the other. -/
theorem OwnsB.form {e : TypeId} {w : World} {base : Nat} {v : Value} {l : List Bk} (h : OwnsB e w base v l) :
    (v = .slice none 0 0 ∧ l = []) ∨ ∃ g cap, v = .slice (some ⟨g, 0, none⟩) l.length cap ∧ base ≤ g ∧ g < w.heap.size ∧ l.length ≤ cap ∧ cap ≤ maxLen ∧ ∀ i m, l[i]? = some m → BAt w g (i * 3) m := by
  rcases h.2 with ⟨hv, h0⟩ | ⟨g, cap, cur, hv, hb, hg, hn, hm, hs, ht⟩
  · exact .inl ⟨hv, List.length_eq_zero_iff.1 h0⟩
  · refine .inr ⟨g, cap, hv, hb, (Array.getElem?_eq_some_iff.1 hg).1, hn, hm, fun i m hi => ?_⟩
    have hil : i < l.length := (List.getElem?_eq_some_iff.1 hi).1
    have hc : ∀ j, j < 3 → w.cell? ⟨g, i * 3 + j, none⟩ = m.cells.toList[j]? := fun j hj => by
      rw [cell_of_row w g (i * 3 + j) cur _ (0, 0) hg, ← bflat_get l i m hi j hj, ← ht, List.getElem?_take, if_pos (by omega)]
      simp
    exact ⟨hc 0 (by omega), hc 1 (by omega), hc 2 (by omega)⟩
theorem OwnsB.shape {e : TypeId} {w : World} {base : Nat} {v : Value} {l : List Bk} (h : OwnsB e w base v l) : ∃ A c, v = .slice A l.length c := by
  rcases h.form with ⟨rfl, rfl⟩ | ⟨g, cap, rfl, -⟩
  · exact ⟨none, 0, rfl⟩
  · exact ⟨_, cap, rfl⟩
/-- The cells that lie there, for one who appends them. -/
theorem OwnsB.news {e : TypeId} {w : World} {base g n cap : Nat} {l : List Bk} (h : OwnsB e w base (.slice (some ⟨g, 0, none⟩) n cap) l) : ∀ j u, (bflat l)[j]? = some u → w.cell? ((⟨g, 0, none⟩ : Addr).add j) = some u :=
  World.ownsRow.cells h rfl
/-- An empty slice that is not nil. -/
theorem OwnsB.lit {e : TypeId} {w : World} {base : Nat} (hb : base ≤ w.heap.size) : OwnsB e (w.alloc (.cells #[] e)) base (.slice (some ⟨w.heap.size, 0, none⟩) 0 0) [] :=
  World.ownsRow_lit (base := base) (e := e) (size := 3) w #[] 0 hb (by simp) rfl

/-- The cells of a block that is to be appended: behind one more block, or behind none. -/
theorem bnews1 (w : World) (y : Bk) (e : TypeId) : ∀ j u, (bflat [y])[j]? = some u → (w.alloc (.cells y.cells e)).cell? ((⟨w.heap.size, 0, none⟩ : Addr).add j) = some u := fun j u hu =>
  World.news_of_block (cs := y.cells) (t := e) (fr := (0, 0)) (heap_alloc_new w _) j u (by rw [bflat_one] at hu; exact hu)
theorem bnews2 (w : World) (o : Obj) (y : Bk) (e : TypeId) : ∀ j u, (bflat [y])[j]? = some u → ((w.alloc o).alloc (.cells y.cells e)).cell? ((⟨w.heap.size + 1, 0, none⟩ : Addr).add j) = some u := fun j u hu => by
  have := bnews1 (w.alloc o) y e j u hu
  rwa [World.size_alloc] at this
theorem bnews3 (w : World) (o o' : Obj) (y : Bk) (e : TypeId) : ∀ j u, (bflat [y])[j]? = some u → (((w.alloc o).alloc o').alloc (.cells y.cells e)).cell? ((⟨w.heap.size + 1 + 1, 0, none⟩ : Addr).add j) = some u := fun j u hu => by
  have := bnews2 (w.alloc o) o' y e j u hu
  rwa [World.size_alloc] at this
/-- What an append leaves, as a list. -/
theorem OwnsB.snoc {e : TypeId} {w : World} {base g cap : Nat} {l : List Bk} {y : Bk} (h : w.ownsRow base e 3 (.slice (some ⟨g, 0, none⟩) (l.length + 1) cap) (l.length + 1) (bflat l ++ bflat [y])) : OwnsB e w base (.slice (some ⟨g, 0, none⟩) (l.length + 1) cap) (l ++ [y]) := by
  unfold OwnsB; rw [bflat_append]; simpa using h

theorem OwnsB.lit2 {e : TypeId} (w : World) (base : Nat) (o : Obj) (hb : base ≤ w.heap.size + 1) : OwnsB e ((w.alloc o).alloc (.cells #[] e)) base (.slice (some ⟨w.heap.size + 1, 0, none⟩) 0 0) [] := by
  have := OwnsB.lit (e := e) (w := w.alloc o) (base := base) (by simp; omega)
  rwa [World.size_alloc] at this
theorem infoB : (Tryz.prog.info? 37).map (fun i => (i.zero, i.size, i.bytes)) = some (some (.agg #[.int .i64 0, .int .i64 0, .string ⟨#[]⟩]), 3, 32) := by kernel_rfl
end Go.Proofs.YtacdbfaoeioflaaGreatDoor

namespace Go.Proofs.YtacdbfaoeioflaaGreatDoor
open Go.RowKit Go.Maps Go.Sort Go.Shelf

theorem sortsA (m : Nat) : AnyZI.SortsIn Tryz.prog sortedA_ren Fence.wide m :=
  ⟨fun blk off cap ss W hH hblk hsz => callsIn_wide.2 (AnyM.slices_Sort_int sortA blk off cap ss W hH hblk hsz),
   fun p cap W => callsIn_wide.2 (AnyM.slices_Sort_int_none sortA p cap W)⟩
theorem keys_any (mb : Option Nat) (W : World) :
    Calls Tryz.prog 63 #[.map mb] W fun e w' => e = .returned (.func (.func 83) #[] #[.pointer (some ⟨W.heap.size, 0, none⟩)]) ∧ w' = W.alloc (.cells #[.map mb] 77) :=
  (callsIn_wide (n := 5)).1 (AnyZI.keys_in keysA Fence.wide 5 trivial rfl mb W)
/-- The numbers of the blocks, in their order. -/
def idsL (L : Lay) : List Int := (listL L).map Bk.id
theorem idsL_sorted (L : Lay) : (idsL L).Pairwise (· < ·) := List.pairwise_map.2 (list_sorted L)
theorem is_keys {w : World} {mb n : Nat} {D : DataW Unit} {L : Lay} (hown : w.ownsMap Tryz.prog 3 elP mb n D) (hI : Is D L) (hG : GoodL L) : (idsL L).Perm (intKeys D) := by
  refine CollectedI.perm (left := fun _ => false) ⟨(idsL_sorted L).imp fun h e => by omega, fun x => ?_⟩ hown keyK Tryz.underlying3 (fun _ => rfl)
  rw [idsL, List.mem_map]
  simp only [and_true]
  constructor
  · rintro ⟨b, hb, rfl⟩
    obtain ⟨i, hi⟩ := (mem_list hG).1 hb
    rw [hI.has _ (Bk.id64 (hG.ok i b hi)), getL_at hG hi]; rfl
  · intro hx
    have hw : i64 x := by
      obtain ⟨es, rfl, hko⟩ := hown.keysOf
      rw [has_eq, List.any_eq_true] at hx
      obtain ⟨p, hp, hs⟩ := hx
      obtain ⟨v, hv⟩ := hko p hp
      obtain ⟨y, _, hy, hl⟩ := Maps.keyOf_i64 Tryz.underlying3 hv
      rw [hy] at hs
      have : x = y := by simpa [Lit.sameKey, eq_comm] using hs
      rw [this]; exact hl
    rw [hI.has x hw] at hx
    obtain ⟨b, hb⟩ := Option.isSome_iff_exists.1 hx
    obtain ⟨⟨i, hi⟩, e⟩ := getL_some hb
    exact ⟨b, (mem_list hG).2 ⟨i, hi⟩, e⟩
theorem sorted_any (mb c : Nat) (L : Lay) (w : World) (hm : w.cell? ⟨c, 0, none⟩ = some (.map (some mb))) (h : Tm w mb L) :
    Calls Tryz.prog 62 #[.func (.func 83) #[] #[.pointer (some ⟨c, 0, none⟩)]] w fun e w' => ∃ v, e = .returned v ∧ w'.ownsRow w.heap.size 3 1 v (listL L).length ((idsL L).map encZ) ∧ Below w.heap.size w w' := by
  obtain ⟨D, hown, hI, hG⟩ := h
  have hsz : Maps.size D ≤ 128 := by rw [hI.size]; have := cnt_le L; have := hG.hi; omega
  have hseq : SeqGives Fence.wide 2 Tryz.prog 83 #[.pointer (some ⟨c, 0, none⟩)] encZ (fun ss => ss.Perm (intKeys D)) (Maps.size D) w :=
    AnyZI.keys_gives (ρ := keysA_ren) { keysA with } Fence.wide _ trivial rfl (by omega) c mb _ D w (World.block_lt_of_cell? _ _ hm) hm hown
  refine ((callsIn_wide (n := 5)).1 (AnyZI.sorted_in sortedA Fence.wide 5 trivial trivial trivial trivial rfl (by omega) (sortsA _) (enters_of Tryz.func82 (by kernel_rfl) rfl) 83 #[.pointer (some ⟨c, 0, none⟩)] trivial (enters_of Tryz.func83 (by kernel_rfl) rfl) _ _ (by unfold maxLen; omega) (by omega) w hseq)).mono ?_
  rintro e w' ⟨v, ss, rfl, hp, hrow, -, hb⟩
  have hq : ss.Perm (idsL L) := List.Perm.trans hp (is_keys hown hI hG).symm
  have hs : ss.mergeSort (fun x y => decide (x ≤ y)) = idsL L := by
    have h1 := mergeSort_of_perm_i hq
    have h2 : (idsL L).mergeSort leI = idsL L := List.mergeSort_of_pairwise ((idsL_sorted L).imp fun h => by simp only [leI, decide_eq_true_eq]; omega)
    exact h1.trans h2
  have hl : ss.length = (listL L).length := by rw [hq.length_eq, idsL, List.length_map]
  rw [hs, hl] at hrow
  exact ⟨v, rfl, hrow, hb⟩
end Go.Proofs.YtacdbfaoeioflaaGreatDoor

namespace Go.Proofs.YtacdbfaoeioflaaGreatDoor
open Go.RowKit

/-- A row of one-cell values, as one reads it. -/
theorem own_shape {w : World} {base : Nat} {e : TypeId} {v : Value} {n : Nat} {xs : List Value} (h : w.ownsRow base e 1 v n xs) :
    ∃ A c, v = .slice A n c ∧ (∀ g, v.ownBlock = some g → base ≤ g ∧ g < w.heap.size) ∧ ∀ i x, xs[i]? = some x → ∃ g, A = some ⟨g, 0, none⟩ ∧ w.cell? ⟨g, i, none⟩ = some x := by
  have hl := World.ownsRow.lt h
  have h' := h
  obtain ⟨h1, h2 | ⟨g, cap, cur, hv, hg, hh, r⟩⟩ := h
  · obtain ⟨rfl, rfl⟩ := h2
    refine ⟨none, 0, rfl, hl, fun i x hx => ?_⟩
    cases xs with
    | nil => simp at hx
    | cons x xs => simp at h1
  · subst hv
    refine ⟨some ⟨g, 0, none⟩, cap, rfl, hl, fun i x hx => ⟨g, rfl, ?_⟩⟩
    have := h'.cells (g := g) rfl i x hx
    have e : (⟨g, 0, none⟩ : Addr).add i = ⟨g, i, none⟩ := by
      by_cases hj : i = 0 <;> simp [Addr.add, hj]
    rw [e] at this; exact this
theorem field_pl (p : Plc) (w : World) : (Instr.field 86 p.val 0).run Tryz.prog w = .ok p.b.val w := by
  simp [Instr.field, Go.part, go_sem, Tryz.isAgg37, Tryz.sizeOf37, asAgg]
theorem take_snocB {α : Type} (l : List α) (i : Nat) (x : α) (h : l[i]? = some x) : l.take (i + 1) = l.take i ++ [x] := by
  rw [List.take_add_one, h]; rfl
set_option maxRecDepth 100000 in
set_option maxHeartbeats 2000000 in
theorem slist_any {w : World} {sb mb pb : Nat} {s : St} {L : Lay} {odd : List Nat} {lost : Bool} {F : Nat → Prop} (h : SF w sb mb pb s L odd lost F) :
    Calls Tryz.prog 30 #[.pointer (some ⟨sb, 0, none⟩)] w fun e w' => ∃ v, e = .returned v ∧ OwnsB 37 w' w.heap.size v (listL L) ∧ Below w.heap.size w w' := by
  obtain ⟨i0, hi0, hz0, hz1, hz2⟩ := info_parts infoB
  obtain ⟨-, c1, -⟩ := h.cells
  have hG := Lib.hid h.good
  have hle : (listL L).length ≤ 128 := by rw [list_length hG.out]; have := cnt_le L; have := hG.out.hi; omega
  have hk : Below w.heap.size w (w.alloc (.cells #[.map (some mb)] 77)) := (Below.refl _ _).alloc (Nat.le_refl _) _
  have HS := Lib.hid h
  have H1 := Lib.hid (h.below hk)
  have B1 := Lib.hid hk
  have HSo := Lib.hid (sorted_any mb w.heap.size L (w.alloc (.cells #[.map (some mb)] 77)) (by simp) (h.below hk).tm)
  have HK := Lib.hid (keys_any (some mb) w)
  clear h hk
  go_enter Tryz.func30, Tryz.ntmps30
  go_wp2_with fail
  go_at_call 63
  refine HK.out.mono ?_
  rintro e w' ⟨rfl, rfl⟩
  go_wp2_with fail
  generalize w.alloc (.cells #[.map (some mb)] 77) = w1 at H1 B1 HSo ⊢
  go_at_call 62
  refine HSo.out.mono ?_
  rintro e w2 ⟨v2, rfl, k1, k2⟩
  have H2 := Lib.hid (H1.out.below k2)
  have B2 := Lib.hid (B1.out.trans (k2.mono B1.out.size))
  obtain ⟨A, c, rfl, hlt, hrow⟩ := own_shape k1
  have HR := Lib.hid hrow
  have HL := Lib.hid hlt
  have hzz := B2.out.size
  clear k1 k2 hrow hlt H1 B1 HSo HK HS c1
  go_wp2
  go_loopw [3, 13] (fun v iv wr => ∃ k : Nat, k ≤ (listL L).length ∧ iv = .int .i64 k ∧ OwnsB 37 wr w2.heap.size v ((listL L).take k) ∧ Below w2.heap.size w2 wr) (fun _ iv _ => (listL L).length - (RowKit.intOf iv).toNat)
  case atStart => exact ⟨0, Nat.zero_le _, rfl, OwnsB.nil _ _ _, Below.refl _ _⟩
  case round =>
    obtain ⟨k, hk, rfl, ho, hb⟩ := hrel
    have HO := Lib.hid ho
    have HB := Lib.hid hb
    clear ho hb
    by_cases hlt : k < (listL L).length
    · obtain ⟨b, hbk⟩ : ∃ b, (listL L)[k]? = some b := ⟨_, List.getElem?_eq_getElem hlt⟩
      obtain ⟨j, hj⟩ := (mem_list hG.out).1 (List.mem_of_getElem? hbk)
      have hpl := place_at hG.out hj
      have hSF := H2.out.below HB.out
      obtain ⟨-, c1, -⟩ := hSF.cells
      have lk := hSF.tm.look1 (Bk.id64 (hG.out.ok j b hj))
      rw [hpl] at lk
      have hfd := field_pl ⟨b, (j : Int)⟩ wr
      obtain ⟨g, rfl, hcell⟩ := HR.out k (.int .i64 b.id) (by rw [idsL, List.map_map, List.getElem?_map, hbk]; rfl)
      have hg2 := (HL.out g rfl).2
      have c0 := (HB.out.cell (p := ⟨g, k, none⟩) hg2).trans hcell
      have hlI : (k : Int) < ((listL L).length : Int) := by omega
      have hkI : (0 : Int) ≤ (k : Int) := by omega
      have hT := take_snocB _ _ _ hbk
      have HTk := Lib.hid hT
      have hlen : ((listL L).take k).length = k := by rw [List.length_take]; omega
      have HW := Lib.hid (bnews1 wr b 37)
      have hba : Below wr.heap.size wr (wr.alloc (.cells b.cells 37)) := (Below.refl _ _).alloc (Nat.le_refl _) _
      have HBA := Lib.hid hba
      clear hba hT hpl hSF hcell
      clear HR HL
      go_wp2_with (at_builtin; refine wpList_append_lies _ rfl (.tmp 17) (.tmp 25) 50 rfl w2.heap.size 37 i0 _ 3 32 Tryz.underlying50 hi0 hz0 hz1 hz2 rfl (by decide) _ _ _ rfl (HO.out.below HBA.out) ⟨wr.heap.size, 0, none⟩ 1 1 (bflat [b]) rfl (by simp [bflat]) HW.out (bflat_oneCell _) (by decide) (by unfold maxLen; omega) (by omega) (by have := HB.out.size; simp; omega) (wr.heap.size + 1) (by simp) ?_; intro g' cap w3 hown hgrow _ _; (have K2 := Lib.hid (below_grown (HB.out.trans (HBA.out.mono HB.out.size)) hgrow (by have := HB.out.size; simp; omega) (fun q hq => (HO.out.lt hq).1))); have K3 := Lib.hid (OwnsB.snoc hown); clear hown hgrow)
      go_roundw
      case rel => exact ⟨k + 1, by omega, by go_num, by rw [HTk.out]; simpa [hlen] using K3.out, K2.out⟩
      case measure => simp only [RowKit.intOf]; omega
    · obtain rfl : k = (listL L).length := by omega
      rw [List.take_length] at HO
      have hlI : ¬ ((listL L).length : Int) < ((listL L).length : Int) := by omega
      clear HR HL
      go_wp2
      go_ret
      exact ⟨_, rfl, (HO.out).mono hzz, B2.out.trans (HB.out.mono hzz)⟩
end Go.Proofs.YtacdbfaoeioflaaGreatDoor

namespace Go.Proofs.YtacdbfaoeioflaaGreatDoor
open Go.RowKit

/-- A row of blocks, as one reads it. -/
theorem bshape {e : TypeId} {w : World} {base : Nat} {v : Value} {l : List Bk} (h : OwnsB e w base v l) : ∃ A c, v = .slice A l.length c ∧ ∀ i m, l[i]? = some m → ∃ g, A = some ⟨g, 0, none⟩ ∧ g < w.heap.size ∧ BAt w g (i * 3) m := by
  rcases h.form with ⟨rfl, rfl⟩ | ⟨g, cap, rfl, -, hg, -, -, hm⟩
  · exact ⟨none, 0, rfl, fun i m h => by simp at h⟩
  · exact ⟨_, cap, rfl, fun i m h => ⟨g, rfl, hg, hm i m h⟩⟩
theorem BAt.below {w w' : World} {B g o : Nat} {m : Bk} (h : BAt w g o m) (hb : Below B w w') (hg : g < B) : BAt w' g o m :=
  ⟨(hb.cell (p := ⟨g, o, none⟩) hg).trans h.c0, (hb.cell (p := ⟨g, o + 1, none⟩) hg).trans h.c1, (hb.cell (p := ⟨g, o + 2, none⟩) hg).trans h.c2⟩
theorem take_same {l1 l2 : List Bk} {k : Nat} {x y : Bk} (h1 : l1[k]? = some x) (h2 : l2[k]? = some y) (h : l1.take k = l2.take k) (e : x = y) : l1.take (k + 1) = l2.take (k + 1) := by
  rw [take_snocB _ _ _ h1, take_snocB _ _ _ h2, h, e]
set_option maxRecDepth 100000 in
set_option maxHeartbeats 2000000 in
theorem same9_any {w : World} {b1 b2 : Nat} {v1 v2 : Value} {l1 l2 : List Bk} (h1 : OwnsB 37 w b1 v1 l1) (h2 : OwnsB 37 w b2 v2 l2) (hl1 : l1.length ≤ 100000) :
    Calls Tryz.prog 29 #[v1, v2] w fun e w' => e = .returned (.bool (decide (l1 = l2))) ∧ Below w.heap.size w w' := by
  obtain ⟨A1, c1, rfl, hc1⟩ := bshape h1
  obtain ⟨A2, c2, rfl, hc2⟩ := bshape h2
  clear h1 h2
  have HC1 := Lib.hid hc1
  have HC2 := Lib.hid hc2
  clear hc1 hc2
  obtain ⟨r, hr⟩ : ∃ r, decide (l1 = l2) = r := ⟨_, rfl⟩
  rw [hr]
  have HR := Lib.hid hr
  clear hr
  by_cases hl : l1.length = l2.length
  · have hlI : ((l1.length : Int) != (l2.length : Int)) = false := by simp; omega
    rw [← hl]
    go_enter Tryz.func29, Tryz.ntmps29
    go_wp2
    go_loopw [5] (fun iv wr => ∃ k : Nat, k ≤ l1.length ∧ iv = .int .i64 k ∧ l1.take k = l2.take k ∧ Below w.heap.size w wr) (fun iv _ => l1.length - (RowKit.intOf iv).toNat)
    case atStart => exact ⟨0, Nat.zero_le _, rfl, rfl, Below.refl _ _⟩
    case round =>
      obtain ⟨k, hk, rfl, ht, hb⟩ := hrel
      have HB := Lib.hid hb
      have HT := Lib.hid ht
      clear hb ht
      by_cases hlt : k < l1.length
      · obtain ⟨x, hx⟩ : ∃ x, l1[k]? = some x := ⟨_, List.getElem?_eq_getElem hlt⟩
        obtain ⟨y, hy⟩ : ∃ y, l2[k]? = some y := ⟨_, List.getElem?_eq_getElem (by omega)⟩
        obtain ⟨g, rfl, hg, p1⟩ := HC1.out k x hx
        obtain ⟨g', rfl, hg', p2⟩ := HC2.out k y hy
        obtain ⟨q0, q1, q2⟩ := (p1.below HB.out hg).below (Below.refl _ wr).drew (Nat.lt_of_lt_of_le hg HB.out.size)
        obtain ⟨r0, r1, r2⟩ := (p2.below HB.out hg').below (Below.refl _ wr).drew (Nat.lt_of_lt_of_le hg' HB.out.size)
        have hkI : (k : Int) < (l1.length : Int) := by omega
        have hk0 : (0 : Int) ≤ (k : Int) := by omega
        have HB1 := Lib.hid (HB.out.drew)
        have hne := bk_neq x y
        have HX := Lib.hid hx
        have HY := Lib.hid hy
        clear p1 p2 hx hy HC1 HC2
        by_cases e : x = y
        · rw [decide_eq_true e] at hne
          have HN := Lib.hid (take_same HX.out HY.out HT.out e)
          clear e
          go_wp2_with fail
          go_region
          all_goals
            go_wp2
            go_roundw
            case rel => exact ⟨k + 1, by omega, by go_num, HN.out, HB1.out⟩
            case measure => simp only [RowKit.intOf]; omega
        · rw [decide_eq_false e] at hne
          have hne2 : decide (l1 = l2) = false := decide_eq_false fun h => e (Option.some.inj (HX.out.symm.trans (by rw [h]; exact HY.out)))
          obtain rfl : r = false := HR.out.symm.trans hne2
          clear hne2 e
          go_wp2_with fail
          go_region
          all_goals
            go_wp2
            go_ret
            exact ⟨rfl, HB1.out⟩
      · obtain rfl : k = l1.length := by omega
        have hlI : ¬ ((l1.length : Int) < (l1.length : Int)) := by omega
        have ht := HT.out
        rw [List.take_length, hl, List.take_length] at ht
        obtain rfl : r = true := HR.out.symm.trans (decide_eq_true ht)
        clear ht
        go_wp2
        go_ret
        exact ⟨rfl, HB.out⟩
  · have hlI : ((l1.length : Int) != (l2.length : Int)) = true := by simp; omega
    have hne : decide (l1 = l2) = false := decide_eq_false fun h => hl (by rw [h])
    obtain rfl : r = false := HR.out.symm.trans hne
    have hlI' : ¬ (l1.length : Int) = (l2.length : Int) := by omega
    clear hl hne
    go_enter Tryz.func29, Tryz.ntmps29
    go_wp2
    go_ret
    exact ⟨rfl, Below.refl _ _⟩
end Go.Proofs.YtacdbfaoeioflaaGreatDoor

namespace Go.Proofs.YtacdbfaoeioflaaGreatDoor
open Go.RowKit

section
variable {w0 w : World} {sb mb pb : Nat} {s : St} {L : Lay} {odd : List Nat} {lost : Bool} {O : Nat → Prop}
theorem Solo.news {w' : World} (h : Solo w0 w sb mb pb s L odd lost O) (hb : Below w.heap.size w w') : Solo w0 w' sb mb pb s L odd lost (fun k => O k ∨ (w.heap.size ≤ k ∧ k < w'.heap.size)) := by
  obtain ⟨F, h1, h2, h3, h4⟩ := h
  refine ⟨F, h1.below hb, h2, h3.trans (hb.mono h3.size), fun k hk => ?_⟩
  rcases hk with hk | ⟨k1, k2⟩
  · exact ⟨(h4 k hk).1, Nat.lt_of_lt_of_le (h4 k hk).2 hb.size⟩
  · exact ⟨fun hf => by have := h1.lt k hf; omega, k2⟩
theorem Solo.less {O' : Nat → Prop} (h : Solo w0 w sb mb pb s L odd lost O) (hO : ∀ k, O' k → O k) : Solo w0 w sb mb pb s L odd lost O' := by
  obtain ⟨F, h1, h2, h3, h4⟩ := h
  exact ⟨F, h1, h2, h3, fun k hk => h4 k (hO k hk)⟩
theorem Solo.good (h : Solo w0 w sb mb pb s L odd lost O) : GoodL L := by obtain ⟨F, h1, h2, h3, h4⟩ := h; exact h1.good
theorem so_list (h : Solo w0 w sb mb pb s L odd lost O) :
    Calls Tryz.prog 30 #[.pointer (some ⟨sb, 0, none⟩)] w fun e w' => ∃ v, e = .returned v ∧ OwnsB 37 w' w.heap.size v (listL L) ∧ Below w.heap.size w w' := by
  obtain ⟨F, h1, h2, h3, h4⟩ := h; exact slist_any h1
end
/-- A list of blocks that came in. -/
structure BIn (w : World) (A : Option Addr) (n : Nat) (bs : Nat → Bk) : Prop where
  at_ : ∀ i, i < n → ∃ g off, A = some ⟨g, off, none⟩ ∧ g < w.heap.size ∧ BAt w g (off + i * 3) (bs i)
  id : ∀ i, i < n → i64 (bs i).id
theorem BIn.cells {w w' : World} {A : Option Addr} {n i : Nat} {bs : Nat → Bk} (h : BIn w A n bs) (hb : Below w.heap.size w w') (hi : i < n) : ∃ g off, A = some ⟨g, off, none⟩ ∧ BAt w' g (off + i * 3) (bs i) := by
  obtain ⟨g, off, e, hg, hc⟩ := h.at_ i hi
  exact ⟨g, off, e, hc.below hb hg⟩
theorem AB.keptO {w w' : World} {b : Nat} {x : Bk} {O : Nat → Prop} (h : AB w b x) (hk : Kept O w w') (hO : O b) : AB w' b x := by
  unfold AB; rw [hk b hO]; exact h
theorem put_e {s : St} {L : Lay} {n k : Nat} (h : Sound s L n k) (b : Bk) : putE L s b ≠ 70 := by
  rw [(h.live.put (by rw [h.len, h.rest.len]) b).1]
  unfold preE refE
  repeat' split
  all_goals first | omega | (rename_i h'; cases h')
end Go.Proofs.YtacdbfaoeioflaaGreatDoor
