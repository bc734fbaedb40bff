/-
  List (package shelf), by a contract: whatever order the map is ranged over in.

  List (package shelf), by a contract.

  Same (weirkeepref09), by a contract: are they the same blocks?

  A shelf alone beside blocks of one's own: List; what is new is one's own; a list of blocks that came in.

  The plate's Cut, Crash, Power beneath a shelf; what a Put leaves that was cut off; Bad.
-/
import Derived.Test.YtmmpknfkncgjpaaGreatDoorM32
import Derived.Test.YtmmpknfkncgjpaaGreatDoorM19
import Derived.Test.YtmmpknfkncgjpaaGreatDoorM24
import Derived.Test.YtmmpknfkncgjpaaGreatDoorM33
import Derived.Deep.AppendLies
namespace Go.Proofs.YtmmpknfkncgjpaaGreatDoor
open Go.RowKit Go.Maps Go.Sort Go.Shelf

theorem sortsA (m : Nat) : AnyZI.SortsIn Tryz.prog sortedA_ren Fence.wide m :=
  ⟨fun blk off cap ss W hH hblk hsz => callsIn_wide.2 (AnyM.slices_Sort_int sortA blk off cap ss W hH hblk hsz),
   fun p cap W => callsIn_wide.2 (AnyM.slices_Sort_int_none sortA p cap W)⟩
theorem keys_any (mb : Option Nat) (W : World) :
    Calls Tryz.prog 77 #[.map mb] W fun e w' => e = .returned (.func (.func 115) #[] #[.pointer (some ⟨W.heap.size, 0, none⟩)]) ∧ w' = W.alloc (.cells #[.map mb] 142) :=
  (callsIn_wide (n := 5)).1 (AnyZI.keys_in keysA Fence.wide 5 trivial rfl mb W)
/-- The numbers of the blocks, in their order. -/
def idsL (L : Lay) : List Int := (listL L).map Bk.id
theorem idsL_sorted (L : Lay) : (idsL L).Pairwise (· < ·) := List.pairwise_map.2 (list_sorted L)
theorem is_keys {w : World} {mb n : Nat} {D : DataW Unit} {L : Lay} (hown : w.ownsMap Tryz.prog 3 elP mb n D) (hI : Is D L) (hG : GoodL L) : (idsL L).Perm (intKeys D) := by
  refine CollectedI.perm (left := fun _ => false) ⟨(idsL_sorted L).imp fun h e => by omega, fun x => ?_⟩ hown keyK Tryz.underlying3 (fun _ => rfl)
  rw [idsL, List.mem_map]
  simp only [and_true]
  constructor
  · rintro ⟨b, hb, rfl⟩
    obtain ⟨i, hi⟩ := (mem_list hG).1 hb
    rw [hI.has _ (Bk.id64 (hG.ok i b hi)), getL_at hG hi]; rfl
  · intro hx
    have hw : i64 x := by
      obtain ⟨es, rfl, hko⟩ := hown.keysOf
      rw [has_eq, List.any_eq_true] at hx
      obtain ⟨p, hp, hs⟩ := hx
      obtain ⟨v, hv⟩ := hko p hp
      obtain ⟨y, _, hy, hl⟩ := Maps.keyOf_i64 Tryz.underlying3 hv
      rw [hy] at hs
      have : x = y := by simpa [Lit.sameKey, eq_comm] using hs
      rw [this]; exact hl
    rw [hI.has x hw] at hx
    obtain ⟨b, hb⟩ := Option.isSome_iff_exists.1 hx
    obtain ⟨⟨i, hi⟩, e⟩ := getL_some hb
    exact ⟨b, (mem_list hG).2 ⟨i, hi⟩, e⟩
theorem sorted_any (mb c : Nat) (L : Lay) (w : World) (hm : w.cell? ⟨c, 0, none⟩ = some (.map (some mb))) (h : Tm w mb L) :
    Calls Tryz.prog 76 #[.func (.func 115) #[] #[.pointer (some ⟨c, 0, none⟩)]] w fun e w' => ∃ v, e = .returned v ∧ w'.ownsRow w.heap.size 3 1 v (listL L).length ((idsL L).map encZ) ∧ Below w.heap.size w w' := by
  obtain ⟨D, hown, hI, hG⟩ := h
  have hsz : Maps.size D ≤ 128 := by rw [hI.size]; have := cnt_le L; have := hG.hi; omega
  have hseq : SeqGives Fence.wide 2 Tryz.prog 115 #[.pointer (some ⟨c, 0, none⟩)] encZ (fun ss => ss.Perm (intKeys D)) (Maps.size D) w :=
    AnyZI.keys_gives (ρ := keysA_ren) { keysA with } Fence.wide _ trivial rfl (by omega) c mb _ D w (World.block_lt_of_cell? _ _ hm) hm hown
  refine ((callsIn_wide (n := 5)).1 (AnyZI.sorted_in sortedA Fence.wide 5 trivial trivial trivial trivial rfl (by omega) (sortsA _) (enters_of Tryz.func114 (by kernel_rfl) rfl) 115 #[.pointer (some ⟨c, 0, none⟩)] trivial (enters_of Tryz.func115 (by kernel_rfl) rfl) _ _ (by unfold maxLen; omega) (by omega) w hseq)).mono ?_
  rintro e w' ⟨v, ss, rfl, hp, hrow, -, hb⟩
  have hq : ss.Perm (idsL L) := List.Perm.trans hp (is_keys hown hI hG).symm
  have hs : ss.mergeSort (fun x y => decide (x ≤ y)) = idsL L := by
    have h1 := mergeSort_of_perm_i hq
    have h2 : (idsL L).mergeSort leI = idsL L := List.mergeSort_of_pairwise ((idsL_sorted L).imp fun h => by simp only [leI, decide_eq_true_eq]; omega)
    exact h1.trans h2
  have hl : ss.length = (listL L).length := by rw [hq.length_eq, idsL, List.length_map]
  rw [hs, hl] at hrow
  exact ⟨v, rfl, hrow, hb⟩
end Go.Proofs.YtmmpknfkncgjpaaGreatDoor

namespace Go.Proofs.YtmmpknfkncgjpaaGreatDoor
open Go.RowKit

/-- A row of one-cell values, as one reads it. -/
theorem own_shape {w : World} {base : Nat} {e : TypeId} {v : Value} {n : Nat} {xs : List Value} (h : w.ownsRow base e 1 v n xs) :
    ∃ A c, v = .slice A n c ∧ (∀ g, v.ownBlock = some g → base ≤ g ∧ g < w.heap.size) ∧ ∀ i x, xs[i]? = some x → ∃ g, A = some ⟨g, 0, none⟩ ∧ w.cell? ⟨g, i, none⟩ = some x := by
  have hl := World.ownsRow.lt h
  have h' := h
  obtain ⟨h1, h2 | ⟨g, cap, cur, hv, hg, hh, r⟩⟩ := h
  · obtain ⟨rfl, rfl⟩ := h2
    refine ⟨none, 0, rfl, hl, fun i x hx => ?_⟩
    cases xs with
    | nil => simp at hx
    | cons x xs => simp at h1
  · subst hv
    refine ⟨some ⟨g, 0, none⟩, cap, rfl, hl, fun i x hx => ⟨g, rfl, ?_⟩⟩
    have := h'.cells (g := g) rfl i x hx
    have e : (⟨g, 0, none⟩ : Addr).add i = ⟨g, i, none⟩ := by
      by_cases hj : i = 0 <;> simp [Addr.add, hj]
    rw [e] at this; exact this
theorem field_pl (p : Plc) (w : World) : (Instr.field 144 p.val 0).run Tryz.prog w = .ok p.b.val w := by
  simp [Instr.field, Go.part, go_sem, Tryz.isAgg34, Tryz.sizeOf34, asAgg]
theorem take_snocB {α : Type} (l : List α) (i : Nat) (x : α) (h : l[i]? = some x) : l.take (i + 1) = l.take i ++ [x] := by
  rw [List.take_add_one, h]; rfl
set_option maxRecDepth 100000 in
set_option maxHeartbeats 2000000 in
theorem slist_any {w : World} {sb mb pb : Nat} {s : St} {L : Lay} {odd : List Nat} {lost : Bool} {F : Nat → Prop} (h : SF w sb mb pb s L odd lost F) :
    Calls Tryz.prog 41 #[.pointer (some ⟨sb, 0, none⟩)] w fun e w' => ∃ v, e = .returned v ∧ OwnsB 34 w' w.heap.size v (listL L) ∧ Below w.heap.size w w' := by
  obtain ⟨i0, hi0, hz0, hz1, hz2⟩ := info_parts infoB
  obtain ⟨-, c1, -⟩ := h.cells
  have hG := Lib.hid h.good
  have hle : (listL L).length ≤ 128 := by rw [list_length hG.out]; have := cnt_le L; have := hG.out.hi; omega
  have hk : Below w.heap.size w (w.alloc (.cells #[.map (some mb)] 142)) := (Below.refl _ _).alloc (Nat.le_refl _) _
  have HS := Lib.hid h
  have H1 := Lib.hid (h.below hk)
  have B1 := Lib.hid hk
  have HSo := Lib.hid (sorted_any mb w.heap.size L (w.alloc (.cells #[.map (some mb)] 142)) (by simp) (h.below hk).tm)
  have HK := Lib.hid (keys_any (some mb) w)
  clear h hk
  go_enter Tryz.func41, Tryz.ntmps41
  go_wp2_with fail
  go_at_call 77
  refine HK.out.mono ?_
  rintro e w' ⟨rfl, rfl⟩
  go_wp2_with fail
  generalize w.alloc (.cells #[.map (some mb)] 142) = w1 at H1 B1 HSo ⊢
  go_at_call 76
  refine HSo.out.mono ?_
  rintro e w2 ⟨v2, rfl, k1, k2⟩
  have H2 := Lib.hid (H1.out.below k2)
  have B2 := Lib.hid (B1.out.trans (k2.mono B1.out.size))
  obtain ⟨A, c, rfl, hlt, hrow⟩ := own_shape k1
  have HR := Lib.hid hrow
  have HL := Lib.hid hlt
  have hzz := B2.out.size
  clear k1 k2 hrow hlt H1 B1 HSo HK HS c1
  go_wp2
  go_loopw [3, 13] (fun v iv wr => ∃ k : Nat, k ≤ (listL L).length ∧ iv = .int .i64 k ∧ OwnsB 34 wr w2.heap.size v ((listL L).take k) ∧ Below w2.heap.size w2 wr) (fun _ iv _ => (listL L).length - (RowKit.intOf iv).toNat)
  case atStart => exact ⟨0, Nat.zero_le _, rfl, OwnsB.nil _ _ _, Below.refl _ _⟩
  case round =>
    obtain ⟨k, hk, rfl, ho, hb⟩ := hrel
    have HO := Lib.hid ho
    have HB := Lib.hid hb
    clear ho hb
    by_cases hlt : k < (listL L).length
    · obtain ⟨b, hbk⟩ : ∃ b, (listL L)[k]? = some b := ⟨_, List.getElem?_eq_getElem hlt⟩
      obtain ⟨j, hj⟩ := (mem_list hG.out).1 (List.mem_of_getElem? hbk)
      have hpl := place_at hG.out hj
      have hSF := H2.out.below HB.out
      obtain ⟨-, c1, -⟩ := hSF.cells
      have lk := hSF.tm.look1 (Bk.id64 (hG.out.ok j b hj))
      rw [hpl] at lk
      have hfd := field_pl ⟨b, (j : Int)⟩ wr
      obtain ⟨g, rfl, hcell⟩ := HR.out k (.int .i64 b.id) (by rw [idsL, List.map_map, List.getElem?_map, hbk]; rfl)
      have hg2 := (HL.out g rfl).2
      have c0 := (HB.out.cell (p := ⟨g, k, none⟩) hg2).trans hcell
      have hlI : (k : Int) < ((listL L).length : Int) := by omega
      have hkI : (0 : Int) ≤ (k : Int) := by omega
      have hT := take_snocB _ _ _ hbk
      have HTk := Lib.hid hT
      have hlen : ((listL L).take k).length = k := by rw [List.length_take]; omega
      have HW := Lib.hid (bnews1 wr b 34)
      have hba : Below wr.heap.size wr (wr.alloc (.cells b.cells 34)) := (Below.refl _ _).alloc (Nat.le_refl _) _
      have HBA := Lib.hid hba
      clear hba hT hpl hSF hcell
      clear HR HL
      go_wp2_with (at_builtin; refine wpList_append_lies _ rfl (.tmp 17) (.tmp 25) 54 rfl w2.heap.size 34 i0 _ 3 32 Tryz.underlying54 hi0 hz0 hz1 hz2 rfl (by decide) _ _ _ rfl (HO.out.below HBA.out) ⟨wr.heap.size, 0, none⟩ 1 1 (bflat [b]) rfl (by simp [bflat]) HW.out (bflat_oneCell _) (by decide) (by unfold maxLen; omega) (by omega) (by have := HB.out.size; simp; omega) (wr.heap.size + 1) (by simp) ?_; intro g' cap w3 hown hgrow _ _; (have K2 := Lib.hid (below_grown (HB.out.trans (HBA.out.mono HB.out.size)) hgrow (by have := HB.out.size; simp; omega) (fun q hq => (HO.out.lt hq).1))); have K3 := Lib.hid (OwnsB.snoc hown); clear hown hgrow)
      go_roundw
      case rel => exact ⟨k + 1, by omega, by go_num, by rw [HTk.out]; simpa [hlen] using K3.out, K2.out⟩
      case measure => simp only [RowKit.intOf]; omega
    · obtain rfl : k = (listL L).length := by omega
      rw [List.take_length] at HO
      have hlI : ¬ ((listL L).length : Int) < ((listL L).length : Int) := by omega
      clear HR HL
      go_wp2
      go_ret
      exact ⟨_, rfl, (HO.out).mono hzz, B2.out.trans (HB.out.mono hzz)⟩
end Go.Proofs.YtmmpknfkncgjpaaGreatDoor

namespace Go.Proofs.YtmmpknfkncgjpaaGreatDoor
open Go.RowKit

/-- A row of blocks, as one reads it. -/
theorem bshape {e : TypeId} {w : World} {base : Nat} {v : Value} {l : List Bk} (h : OwnsB e w base v l) : ∃ A c, v = .slice A l.length c ∧ ∀ i m, l[i]? = some m → ∃ g, A = some ⟨g, 0, none⟩ ∧ g < w.heap.size ∧ BAt w g (i * 3) m := by
  rcases h.form with ⟨rfl, rfl⟩ | ⟨g, cap, rfl, -, hg, -, -, hm⟩
  · exact ⟨none, 0, rfl, fun i m h => by simp at h⟩
  · exact ⟨_, cap, rfl, fun i m h => ⟨g, rfl, hg, hm i m h⟩⟩
theorem BAt.below {w w' : World} {B g o : Nat} {m : Bk} (h : BAt w g o m) (hb : Below B w w') (hg : g < B) : BAt w' g o m :=
  ⟨(hb.cell (p := ⟨g, o, none⟩) hg).trans h.c0, (hb.cell (p := ⟨g, o + 1, none⟩) hg).trans h.c1, (hb.cell (p := ⟨g, o + 2, none⟩) hg).trans h.c2⟩
theorem take_same {l1 l2 : List Bk} {k : Nat} {x y : Bk} (h1 : l1[k]? = some x) (h2 : l2[k]? = some y) (h : l1.take k = l2.take k) (e : x = y) : l1.take (k + 1) = l2.take (k + 1) := by
  rw [take_snocB _ _ _ h1, take_snocB _ _ _ h2, h, e]
set_option maxRecDepth 100000 in
set_option maxHeartbeats 2000000 in
theorem same9_any {w : World} {b1 b2 : Nat} {v1 v2 : Value} {l1 l2 : List Bk} (h1 : OwnsB 34 w b1 v1 l1) (h2 : OwnsB 34 w b2 v2 l2) (hl1 : l1.length ≤ 100000) :
    Calls Tryz.prog 16 #[v1, v2] w fun e w' => e = .returned (.bool (decide (l1 = l2))) ∧ Below w.heap.size w w' := by
  obtain ⟨A1, c1, rfl, hc1⟩ := bshape h1
  obtain ⟨A2, c2, rfl, hc2⟩ := bshape h2
  clear h1 h2
  have HC1 := Lib.hid hc1
  have HC2 := Lib.hid hc2
  clear hc1 hc2
  obtain ⟨r, hr⟩ : ∃ r, decide (l1 = l2) = r := ⟨_, rfl⟩
  rw [hr]
  have HR := Lib.hid hr
  clear hr
  by_cases hl : l1.length = l2.length
  · have hlI : ((l1.length : Int) != (l2.length : Int)) = false := by simp; omega
    rw [← hl]
    go_enter Tryz.func16, Tryz.ntmps16
    go_wp2
    go_loopw [5] (fun iv wr => ∃ k : Nat, k ≤ l1.length ∧ iv = .int .i64 k ∧ l1.take k = l2.take k ∧ Below w.heap.size w wr) (fun iv _ => l1.length - (RowKit.intOf iv).toNat)
    case atStart => exact ⟨0, Nat.zero_le _, rfl, rfl, Below.refl _ _⟩
    case round =>
      obtain ⟨k, hk, rfl, ht, hb⟩ := hrel
      have HB := Lib.hid hb
      have HT := Lib.hid ht
      clear hb ht
      by_cases hlt : k < l1.length
      · obtain ⟨x, hx⟩ : ∃ x, l1[k]? = some x := ⟨_, List.getElem?_eq_getElem hlt⟩
        obtain ⟨y, hy⟩ : ∃ y, l2[k]? = some y := ⟨_, List.getElem?_eq_getElem (by omega)⟩
        obtain ⟨g, rfl, hg, p1⟩ := HC1.out k x hx
        obtain ⟨g', rfl, hg', p2⟩ := HC2.out k y hy
        obtain ⟨q0, q1, q2⟩ := (p1.below HB.out hg).below (Below.refl _ wr).drew (Nat.lt_of_lt_of_le hg HB.out.size)
        obtain ⟨r0, r1, r2⟩ := (p2.below HB.out hg').below (Below.refl _ wr).drew (Nat.lt_of_lt_of_le hg' HB.out.size)
        have hkI : (k : Int) < (l1.length : Int) := by omega
        have hk0 : (0 : Int) ≤ (k : Int) := by omega
        have HB1 := Lib.hid (HB.out.drew)
        have hne := bk_neq x y
        have HX := Lib.hid hx
        have HY := Lib.hid hy
        clear p1 p2 hx hy HC1 HC2
        by_cases e : x = y
        · rw [decide_eq_true e] at hne
          have HN := Lib.hid (take_same HX.out HY.out HT.out e)
          clear e
          go_wp2_with fail
          go_region
          all_goals
            go_wp2
            go_roundw
            case rel => exact ⟨k + 1, by omega, by go_num, HN.out, HB1.out⟩
            case measure => simp only [RowKit.intOf]; omega
        · rw [decide_eq_false e] at hne
          have hne2 : decide (l1 = l2) = false := decide_eq_false fun h => e (Option.some.inj (HX.out.symm.trans (by rw [h]; exact HY.out)))
          obtain rfl : r = false := HR.out.symm.trans hne2
          clear hne2 e
          go_wp2_with fail
          go_region
          all_goals
            go_wp2
            go_ret
            exact ⟨rfl, HB1.out⟩
      · obtain rfl : k = l1.length := by omega
        have hlI : ¬ ((l1.length : Int) < (l1.length : Int)) := by omega
        have ht := HT.out
        rw [List.take_length, hl, List.take_length] at ht
        obtain rfl : r = true := HR.out.symm.trans (decide_eq_true ht)
        clear ht
        go_wp2
        go_ret
        exact ⟨rfl, HB.out⟩
  · have hlI : ((l1.length : Int) != (l2.length : Int)) = true := by simp; omega
    have hne : decide (l1 = l2) = false := decide_eq_false fun h => hl (by rw [h])
    obtain rfl : r = false := HR.out.symm.trans hne
    have hlI' : ¬ (l1.length : Int) = (l2.length : Int) := by omega
    clear hl hne
    go_enter Tryz.func16, Tryz.ntmps16
    go_wp2
    go_ret
    exact ⟨rfl, Below.refl _ _⟩
end Go.Proofs.YtmmpknfkncgjpaaGreatDoor

namespace Go.Proofs.YtmmpknfkncgjpaaGreatDoor
open Go.RowKit

section
variable {w0 w : World} {sb mb pb : Nat} {s : St} {L : Lay} {odd : List Nat} {lost : Bool} {O : Nat → Prop}
theorem Solo.news {w' : World} (h : Solo w0 w sb mb pb s L odd lost O) (hb : Below w.heap.size w w') : Solo w0 w' sb mb pb s L odd lost (fun k => O k ∨ (w.heap.size ≤ k ∧ k < w'.heap.size)) := by
  obtain ⟨F, h1, h2, h3, h4⟩ := h
  refine ⟨F, h1.below hb, h2, h3.trans (hb.mono h3.size), fun k hk => ?_⟩
  rcases hk with hk | ⟨k1, k2⟩
  · exact ⟨(h4 k hk).1, Nat.lt_of_lt_of_le (h4 k hk).2 hb.size⟩
  · exact ⟨fun hf => by have := h1.lt k hf; omega, k2⟩
theorem Solo.less {O' : Nat → Prop} (h : Solo w0 w sb mb pb s L odd lost O) (hO : ∀ k, O' k → O k) : Solo w0 w sb mb pb s L odd lost O' := by
  obtain ⟨F, h1, h2, h3, h4⟩ := h
  exact ⟨F, h1, h2, h3, fun k hk => h4 k (hO k hk)⟩
theorem Solo.good (h : Solo w0 w sb mb pb s L odd lost O) : GoodL L := by obtain ⟨F, h1, h2, h3, h4⟩ := h; exact h1.good
theorem so_list (h : Solo w0 w sb mb pb s L odd lost O) :
    Calls Tryz.prog 41 #[.pointer (some ⟨sb, 0, none⟩)] w fun e w' => ∃ v, e = .returned v ∧ OwnsB 34 w' w.heap.size v (listL L) ∧ Below w.heap.size w w' := by
  obtain ⟨F, h1, h2, h3, h4⟩ := h; exact slist_any h1
end
/-- A list of blocks that came in. -/
structure BIn (w : World) (A : Option Addr) (n : Nat) (bs : Nat → Bk) : Prop where
  at_ : ∀ i, i < n → ∃ g off, A = some ⟨g, off, none⟩ ∧ g < w.heap.size ∧ BAt w g (off + i * 3) (bs i)
  id : ∀ i, i < n → i64 (bs i).id
theorem BIn.cells {w w' : World} {A : Option Addr} {n i : Nat} {bs : Nat → Bk} (h : BIn w A n bs) (hb : Below w.heap.size w w') (hi : i < n) : ∃ g off, A = some ⟨g, off, none⟩ ∧ BAt w' g (off + i * 3) (bs i) := by
  obtain ⟨g, off, e, hg, hc⟩ := h.at_ i hi
  exact ⟨g, off, e, hc.below hb hg⟩
theorem AB.keptO {w w' : World} {b : Nat} {x : Bk} {O : Nat → Prop} (h : AB w b x) (hk : Kept O w w') (hO : O b) : AB w' b x := by
  unfold AB; rw [hk b hO]; exact h
theorem put_e {s : St} {L : Lay} {n k : Nat} (h : Sound s L n k) (b : Bk) : putE L s b ≠ 70 := by
  rw [(h.live.put (by rw [h.len, h.rest.len]) b).1]
  unfold preE refE
  repeat' split
  all_goals first | omega | (rename_i h'; cases h')
end Go.Proofs.YtmmpknfkncgjpaaGreatDoor

namespace Go.Proofs.YtmmpknfkncgjpaaGreatDoor
open Go.RowKit Go.PlainAid

section
variable {w0 w : World} {sb mb pb : Nat} {s : St} {L : Lay} {odd : List Nat} {lost : Bool} {O : Nat → Prop}
theorem Solo.pl (h : Solo w0 w sb mb pb s L odd lost O) : ∃ Fp, PB w pb s Fp ∧ ∀ w' s', Goes Fp w w' (PB w' pb s') → Solo w0 w' sb mb pb s' L odd lost O ∧ Kept O w w' := by
  obtain ⟨F, h1, h2, h3, h4⟩ := h
  obtain ⟨Fp, k1, k2⟩ := h1.pl
  refine ⟨Fp, k1, fun w' s' hg => ?_⟩
  obtain ⟨F', q1, q2, q3⟩ := k2 w' s' hg
  refine ⟨⟨F', q1, fun k hk => ?_, q3.below h3 h3.size h2, fun k hk => ⟨fun hf => ?_, Nat.lt_of_lt_of_le (h4 k hk).2 q3.size⟩⟩, fun k hk => q3.block k (h4 k hk).2 (h4 k hk).1⟩
  · rcases q2 k hk with h | h
    · exact h2 k h
    · exact Nat.le_trans h3.size h
  · rcases q2 k hf with h | h
    · exact (h4 k hk).1 h
    · have := (h4 k hk).2; omega
theorem so_cut (h : Solo w0 w sb mb pb s L odd lost O) {k : Int} {keep : Nat} (hk : k < 9223372036854775808) (hkp : keep < 18446744073709551616) :
    Calls Tryz.prog 23 #[.pointer (some ⟨pb, 0, none⟩), .int .i64 k, .int .u64 keep] w fun e w' => e = .returned (.tuple #[]) ∧ Solo w0 w' sb mb pb (cut s k keep) L odd lost O ∧ Kept O w w' := by
  obtain ⟨Fp, k1, k2⟩ := h.pl
  exact (cut_any pb s Fp k keep w k1 hk hkp).mono fun e w' ⟨he, hg⟩ => ⟨he, k2 _ _ hg⟩
theorem so_crash (h : Solo w0 w sb mb pb s L odd lost O) (hG : Good s) (hw : s.wait.length ≤ 1000) {keep : Nat} (hkp : keep < 18446744073709551616) :
    Calls Tryz.prog 25 #[.pointer (some ⟨pb, 0, none⟩), .int .u64 keep] w fun e w' => e = .returned (.tuple #[]) ∧ Solo w0 w' sb mb pb (crash s keep) L odd lost O ∧ Kept O w w' := by
  obtain ⟨Fp, k1, k2⟩ := h.pl
  exact (crash_any pb s Fp keep w k1 hG hw hkp).mono fun e w' ⟨he, hg⟩ => ⟨he, k2 _ _ hg⟩
theorem so_power (h : Solo w0 w sb mb pb s L odd lost O) :
    Calls Tryz.prog 63 #[.pointer (some ⟨pb, 0, none⟩)] w fun e w' => e = .returned (.tuple #[]) ∧ Solo w0 w' sb mb pb (power s) L odd lost O ∧ Kept O w w' := by
  obtain ⟨Fp, k1, k2⟩ := h.pl
  exact (power_any pb s Fp w k1).mono fun e w' ⟨he, hg⟩ => ⟨he, k2 _ _ hg⟩
end

/-! ### a Put that is cut off -/
theorem Rest.cut {s : St} {n c : Nat} (h : Rest s n c) {k : Int} {keep : Nat} (hk : k < 9223372036854775808) (hkp : keep < 18446744073709551616) : Rest (cut s k keep) n c :=
  ⟨h.good.cut hk hkp, h.wait, h.len, h.few⟩
theorem cut_read {s : St} {n c : Nat} (h : Rest s n c) (k : Int) (keep j : Nat) : readB (cut s k keep) j = readB s j := by
  rw [readB_rest h.wait, readB_rest (s := Go.Proofs.YtmmpknfkncgjpaaGreatDoor.cut s k keep) h.wait]; rfl
/-- Power goes and comes, where nothing waits. -/
theorem Rest.again {s : St} {n c : Nat} (h : Rest s n c) (keep : Nat) : Rest (power (crash s keep)) n c ∧ (power (crash s keep)).gone = false ∧ ∀ j, readB (power (crash s keep)) j = readB s j := by
  have hw : (crash s keep).wait = [] := (Still.crash s keep (still_of h.wait)).1
  have his : (crash s keep).is = s.is := by
    unfold Go.Proofs.YtmmpknfkncgjpaaGreatDoor.crash
    by_cases hg : s.gone = true
    · rw [if_pos hg]
    · rw [if_neg hg]
      show done _ s.wait s.is s.wait.length = _
      rw [h.wait]; rfl
  refine ⟨⟨(h.good.crash keep).power, hw, by show (crash s keep).is.length = n; rw [his]; exact h.len, by show (crash s keep).n ≤ c; rw [crash_n]; exact h.few⟩, rfl, fun j => ?_⟩
  rw [readB_rest (s := power (crash s keep)) hw, readB_rest h.wait]
  show (crash s keep).is.getD j [] = _
  rw [his]
/-- What lies there behind a Put in which the power may have gone: what did, or the block too. -/
theorem cuts_out {s : St} {L : Lay} {n c : Nat} (h : Sound s L n c) {at_ : Int} {keep : Nat} (hk : at_ < 9223372036854775808) (hkp : keep < 18446744073709551616) (b : Bk) :
    ∃ L3, Fit (readB (putS L (cut s at_ keep) b)) L3 ∧ L3.length = n ∧ ((L3 = L ∧ putE L (cut s at_ keep) b ≠ 0) ∨ (L3 = putL L (low L) b ∧ refE b 1 = 0 ∧ low L < L.length)) := by
  have hR := h.rest.cut hk hkp
  have hrd := cut_read h.rest at_ keep
  have hg : (cut s at_ keep).gone = false := h.live.1
  generalize cut s at_ keep = s1 at hR hrd hg ⊢
  have hF : Fit (readB s1) L := h.fit.same fun j _ => hrd j
  unfold putE putS
  by_cases hp : preE L s1.gone b ≠ 0
  · rw [if_pos hp, if_pos hp]
    exact ⟨L, hF, h.len, .inl ⟨rfl, hp⟩⟩
  · rw [if_neg hp, if_neg hp]
    obtain ⟨r1, r2, r3, r4⟩ := preE_zero (by omega : preE L s1.gone b = 0)
    obtain ⟨q1, q2, q3⟩ := hR.wr_out hg (i := low L) (by rw [← h.len]; exact r4) r1
    have hfr := low_free r4
    have hput : ∀ hp : str (readB (wrS s1 (low L) b) (low L)) = recB b 1, Fit (readB (wrS s1 (low L) b)) (putL L (low L) b) := fun hp => hF.put hfr (fun j _ hj => q1 j hj) r1 r3 hp
    by_cases he : wrE s1 (low L) b = 0
    · exact ⟨_, hput (q2 he).1, by rw [putL_length]; exact h.len, .inr ⟨rfl, r1, r4⟩⟩
    · rcases q3 with e | e | e
      · exact ⟨L, hF.same fun j _ => by by_cases ej : j = low L; (rw [ej]; exact e); (exact q1 j ej), h.len, .inl ⟨rfl, he⟩⟩
      · exact ⟨L, hF.torn hfr (fun j _ hj => q1 j hj) e, h.len, .inl ⟨rfl, he⟩⟩
      · exact ⟨_, hput e, by rw [putL_length]; exact h.len, .inr ⟨rfl, r1, r4⟩⟩

/-! ### Bad -/
section
variable {w : World} {sb mb pb : Nat} {s : St} {L : Lay} {odd : List Nat} {lost : Bool} {F : Nat → Prop}
end
end Go.Proofs.YtmmpknfkncgjpaaGreatDoor
