/-
  The document's own votes out of a list that came in; lists of them in a row.
-/
import Derived.Test.YtacbodojbekeeaaDoorRcho
import Derived.Test.YtacbodojbekeeaaDoorSame10
namespace Go.Proofs.YtacbodojbekeeaaDoor
open Go.RowKit

/-- A row of one-cell values, as one reads it. -/
theorem own_shape {w : World} {base : Nat} {e : TypeId} {v : Value} {n : Nat} {xs : List Value} (h : w.ownsRow base e 1 v n xs) :
    ∃ A c, v = .slice A n c ∧ (∀ g, v.ownBlock = some g → base ≤ g ∧ g < w.heap.size) ∧ ∀ i x, xs[i]? = some x → ∃ g, A = some ⟨g, 0, none⟩ ∧ w.cell? ⟨g, i, none⟩ = some x := by
  have hl := World.ownsRow.lt h
  have h' := h
  obtain ⟨h1, h2 | ⟨g, cap, cur, hv, hg, hh, r⟩⟩ := h
  · obtain ⟨rfl, rfl⟩ := h2
    refine ⟨none, 0, rfl, hl, fun i x hx => ?_⟩
    cases xs with
    | nil => simp at hx
    | cons x xs => simp at h1
  · subst hv
    refine ⟨some ⟨g, 0, none⟩, cap, rfl, hl, fun i x hx => ⟨g, rfl, ?_⟩⟩
    have := h'.cells (g := g) rfl i x hx
    have e : (⟨g, 0, none⟩ : Addr).add i = ⟨g, i, none⟩ := by
      by_cases hj : i = 0 <;> simp [Addr.add, hj]
    rw [e] at this; exact this
set_option maxRecDepth 100000 in
set_option maxHeartbeats 2000000 in
theorem theirs_row {w : World} {A : Option Addr} {c : Nat} {l : List V} (hc : ∀ i m, l[i]? = some m → ∃ g o, A = some ⟨g, o, none⟩ ∧ g < w.heap.size ∧ VAt w g (o + i * 3) m) (hl : l.length ≤ 100000) :
    Calls Tryd.prog 16 #[.slice A l.length c] w fun e w' => ∃ u, e = .returned u ∧ OwnsV 46 w' w.heap.size u l ∧ Below w.heap.size w w' := by
  obtain ⟨i0, hi0, hz0, hz1, hz2⟩ := info_parts infoR
  have HC := Lib.hid hc
  have HL0 := Lib.hid (OwnsV.lit (e := 46) (Nat.le_refl w.heap.size))
  have HB0 := Lib.hid (show Below w.heap.size w (w.alloc (.cells #[] 46)) from (Below.refl _ _).alloc (Nat.le_refl _) _)
  clear hc
  go_enter Tryd.func16, Tryd.ntmps16
  go_wp2
  go_loopw [3, 4] (fun u iv wr => ∃ k : Nat, k ≤ l.length ∧ iv = .int .i64 k ∧ OwnsV 46 wr w.heap.size u (l.take k) ∧ Below w.heap.size w wr) (fun _ iv _ => l.length - (RowKit.intOf iv).toNat)
  case atStart => exact ⟨0, Nat.zero_le _, rfl, HL0.out, HB0.out⟩
  case round =>
    obtain ⟨k, hk, rfl, ho, hb⟩ := hrel
    have HO := Lib.hid ho
    have HB := Lib.hid hb
    clear ho hb
    by_cases hlt : k < l.length
    · have hkI : (k : Int) < (l.length : Int) := by omega
      have hk0 : (0 : Int) ≤ (k : Int) := by omega
      obtain ⟨x, hx⟩ : ∃ x, l[k]? = some x := ⟨_, List.getElem?_eq_getElem hlt⟩
      obtain ⟨g, o, rfl, hg, hv⟩ := HC.out k x hx
      obtain ⟨c0, c1, c2⟩ := hv.below HB.out hg
      have HT := Lib.hid (take_snocV hx)
      have hlen : (l.take k).length = k := by rw [List.length_take]; omega
      have HW := Lib.hid (vnews1 wr x 46)
      have HBA := Lib.hid (show Below wr.heap.size wr (wr.alloc (.cells x.cells 46)) from (Below.refl _ _).alloc (Nat.le_refl _) _)
      clear hv HC hx
      go_wp2_with (at_builtin; refine wpList_append_lies _ rfl (.tmp 12) (.tmp 17) 28 rfl w.heap.size 46 i0 _ 3 32 Tryd.underlying28 hi0 hz0 hz1 hz2 rfl (by decide) _ _ _ rfl (HO.out.below HBA.out) ⟨wr.heap.size, 0, none⟩ 1 1 (vflat [x]) rfl (by simp [vflat]) HW.out (vflat_oneCell _) (by decide) (by unfold maxLen; omega) (by omega) (by have := HB.out.size; simp; omega) (wr.heap.size + 1) (by simp) ?_; intro g' cap w3 hown hgrow _ _; (have K2 := Lib.hid (below_grown (HB.out.trans (HBA.out.mono HB.out.size)) hgrow (by have := HB.out.size; simp; omega) (fun q hq => (HO.out.lt hq).1))); have K3 := Lib.hid (OwnsV.snoc hown); clear hown hgrow)
      go_roundw
      case rel => exact ⟨k + 1, by omega, by go_num, by rw [HT.out]; simpa [hlen] using K3.out, K2.out⟩
      case measure => simp only [RowKit.intOf]; omega
    · obtain rfl : k = l.length := by omega
      have hlI : ¬ ((l.length : Int) < (l.length : Int)) := by omega
      rw [List.take_length] at HO
      go_wp2
      go_ret
      exact ⟨_, rfl, HO.out, HB.out⟩

theorem infoS : (Tryd.prog.info? 28).map (fun i => (i.zero, i.size, i.bytes)) = some (some (.slice none 0 0), 1, 24) := by kernel_rfl
/-- The first i lists, in a row: u; each list in a row of its own. -/
def Rws (w : World) (base : Nat) (u : Value) (L : Nat → Nat) (z : Nat → Nat → V) (i : Nat) (sv : Nat → Value) : Prop :=
  w.ownsRow base 28 1 u i ((List.range i).map sv) ∧ ∀ j, j < i → OwnsV 46 w 0 (sv j) (rowL L z j)
theorem Rws.below {w w' : World} {base : Nat} {u : Value} {L : Nat → Nat} {z : Nat → Nat → V} {i : Nat} {sv : Nat → Value} (h : Rws w base u L z i sv) (hb : Below w.heap.size w w') : Rws w' base u L z i sv :=
  ⟨ownsRow_below hb h.1, fun j hj => (h.2 j hj).below hb⟩
theorem Rws.shape {w : World} {base : Nat} {u : Value} {L : Nat → Nat} {z : Nat → Nat → V} {i : Nat} {sv : Nat → Value} (h : Rws w base u L z i sv) : ∃ A c, u = .slice A i c := by
  obtain ⟨A, c, e, -⟩ := own_shape h.1
  exact ⟨A, c, e⟩
theorem Rws.start {w : World} {L : Nat → Nat} {z : Nat → Nat → V} {base : Nat} (hb : base ≤ w.heap.size) : Rws (w.alloc (.cells #[] 28)) base (.slice (some ⟨w.heap.size, 0, none⟩) 0 0) L z 0 (fun _ => .slice none 0 0) :=
  ⟨World.ownsRow_lit (base := base) (e := 28) (size := 1) w #[] 0 hb (by simp) rfl, fun j hj => by omega⟩
theorem Rws.more {w w' : World} {base g cap : Nat} {u v : Value} {L : Nat → Nat} {z : Nat → Nat → V} {i : Nat} {sv : Nat → Value} (h : Rws w base u L z i sv) (hv : OwnsV 46 w 0 v (rowL L z i))
    (ho : w'.ownsRow base 28 1 (.slice (some ⟨g, 0, none⟩) (i + 1) cap) (i + 1) ((List.range i).map sv ++ [v])) (hg : w.grownBy w' u.ownBlock) : Rws w' base (.slice (some ⟨g, 0, none⟩) (i + 1) cap) L z (i + 1) (fun j => if j = i then v else sv j) := by
  have hne : ∀ (x : Value) (l : List V), OwnsV 46 w 0 x l → OwnsV 46 w' 0 x l := fun x l hx => hx.grown hg fun q hq e => by
    obtain ⟨c1, h1⟩ := owns_type hx hq
    obtain ⟨c2, h2⟩ := owns_type h.1 e.symm
    exact type_ne h1 h2 (by decide) rfl
  refine ⟨?_, fun j hj => ?_⟩
  · have e : (List.range (i + 1)).map (fun j => if j = i then v else sv j) = (List.range i).map sv ++ [v] := by
      rw [List.range_succ, List.map_append]
      congr 1
      · apply List.map_congr_left
        intro a ha
        have := List.mem_range.1 ha
        rw [if_neg (by omega)]
      · simp
    rw [e]; exact ho
  · by_cases e : j = i
    · subst e; simp only [if_pos]; exact hne _ _ hv
    · simp only [if_neg e]; exact hne _ _ (h.2 j (by omega))
def adr : Value → Option Addr
  | .slice A _ _ => A
  | _ => none
def cpy : Value → Nat
  | .slice _ _ c => c
  | _ => 0
theorem Rws.sets {w : World} {base : Nat} {u : Value} {L : Nat → Nat} {z : Nat → Nat → V} {n : Nat} {sv : Nat → Value} (h : Rws w base u L z n sv) (hL : ∀ j, j < n → L j ≤ 30) : ∃ A c, u = .slice A n c ∧ Sets w A n (fun j => adr (sv j)) L (fun j => cpy (sv j)) z := by
  obtain ⟨A, c, rfl, hlt, hrow⟩ := own_shape h.1
  refine ⟨A, c, rfl, fun i hi => ⟨?_, by have := hL i hi; omega, fun k hk => ?_⟩⟩
  · obtain ⟨g, rfl, hc⟩ := hrow i (sv i) (by rw [List.getElem?_map, List.getElem?_range hi]; rfl)
    refine ⟨g, 0, rfl, (hlt g rfl).2, ?_⟩
    rw [Nat.zero_add, hc]
    show some (sv i) = some (Value.slice (adr (sv i)) (L i) (cpy (sv i)))
    obtain ⟨A', c', e, -⟩ := vshape (h.2 i hi)
    rw [e, rowL_len]; rfl
  · obtain ⟨A', c', e, hm⟩ := vshape (h.2 i hi)
    obtain ⟨g, hA, hg, hv⟩ := hm k (z i k) (rowL_get L z i k hk)
    exact ⟨g, 0, by show adr (sv i) = _; rw [e]; exact hA, hg, by rw [Nat.zero_add]; exact hv⟩
end Go.Proofs.YtacbodojbekeeaaDoor
