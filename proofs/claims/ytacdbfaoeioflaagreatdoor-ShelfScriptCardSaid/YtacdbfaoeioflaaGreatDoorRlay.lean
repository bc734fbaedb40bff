/-
  lay, List, Free of the document's own shelf (weirkeepref09), by contracts.
-/
import Derived.Test.YtacdbfaoeioflaaGreatDoorRshelf
import Derived.Test.YtacdbfaoeioflaaGreatDoorSolo2
import Derived.BigQuiet
namespace Go.Proofs.YtacdbfaoeioflaaGreatDoor
open Go.RowKit

/-! ### the plain part -/
/-- What lay leaves. -/
def layL (L : Lay) (i : Nat) (b : Bk) : Lay := if newer L b then putL L i b else L
theorem layL_length (L : Lay) (i : Nat) (b : Bk) : (layL L i b).length = L.length := by
  unfold layL; split
  · exact putL_length _ _ _
  · rfl
theorem wo_set {L : Lay} (hG : GoodL L) {k : Nat} {c : Bk} (hk : At L k c) : woL L c.id = L.set k none := by
  apply List.ext_getElem?
  intro j
  unfold woL
  rw [List.getElem?_map, List.getElem?_set]
  by_cases e : k = j
  · subst e
    rw [if_pos rfl, if_pos hk.lt, show L[k]? = some (some c) from hk]
    simp [hasId]
  · rw [if_neg e]
    cases hj : L[j]? with
    | none => rfl
    | some o =>
      cases o with
      | none => rfl
      | some d =>
        have : d.id ≠ c.id := fun h => e (hG.un k j c d hk hj h.symm)
        simp [hasId, this]
theorem lay_none {L : Lay} {b : Bk} (i : Nat) (h : getL L b.id = none) : layL L i b = L.set i (some b) := by
  unfold layL newer
  rw [h]
  simp only [if_true]
  unfold putL
  rw [woL_self h]
theorem lay_some {L : Lay} (hG : GoodL L) {b c : Bk} {k : Nat} (i : Nat) (hk : At L k c) (e : c.id = b.id) : layL L i b = if c.ver < b.ver then (L.set k none).set i (some b) else L := by
  unfold layL newer
  rw [← e, getL_at hG hk]
  simp only [decide_eq_true_eq]
  unfold putL
  rw [← e, wo_set hG hk]
theorem goodL_layL {L : Lay} (hG : GoodL L) {i : Nat} (hi : i < L.length) {b : Bk} (hb : refE b 1 = 0) : GoodL (layL L i b) := by
  unfold layL; split
  · exact hG.put hi hb
  · exact hG
theorem goodL_set_none {L : Lay} (hG : GoodL L) (k : Nat) : GoodL (L.set k none) := by
  have hat : ∀ i b, At (L.set k none) i b → At L i b := fun i b h => by
    unfold At at h ⊢
    rw [List.getElem?_set] at h
    by_cases e : k = i
    · rw [if_pos e] at h; split at h <;> simp at h
    · rwa [if_neg e] at h
  exact ⟨by rw [List.length_set]; exact hG.hi, fun i b h => hG.ok i b (hat i b h), fun i j b c hb hc => hG.un i j b c (hat i b hb) (hat j c hc)⟩

section
variable {w : World} {rb g rp : Nat} {vo : Value} {L : Lay} {odd : List Nat} {lost : Bool}
theorem Rb9.setSecK (rb : Nat) (vo : Value) (w : World) (g o0 o1 o2 : Nat) (x0 x1 x2 : Value) : Keeps (Or9 rb g vo) w (((w.setCell ⟨g, o0, none⟩ x0).setCell ⟨g, o1, none⟩ x1).setCell ⟨g, o2, none⟩ x2) :=
  (((Keeps.refl _ w).set (b := g) (.inl (.inr (.inl rfl))) _).set (b := g) (.inl (.inr (.inl rfl))) _).set (b := g) (.inl (.inr (.inl rfl))) _
/-- What its calls leave that turn its list alone. -/
def Laid (w w' : World) (rb g rp : Nat) (vo : Value) (L : Lay) (odd : List Nat) (lost : Bool) : Prop := Rb9 w' rb g rp vo L odd lost ∧ Keeps (Or9 rb g vo) w w'
set_option maxRecDepth 100000 in
set_option maxHeartbeats 4000000 in
theorem rlay_row (h : Rb9 w rb g rp vo L odd lost) {i : Nat} (hi : i < L.length) {b : Bk} (hb : refE b 1 = 0) :
    Calls Tryz.prog 46 #[.pointer (some ⟨rb, 0, none⟩), .int .i64 i, b.val] w fun e w' => e = .returned (.tuple #[]) ∧ Laid w w' rb g rp vo (layL L i b) odd lost := by
  have hb0 : Below w.heap.size w (w.alloc (.cells b.cells 37)) := (Below.refl _ _).alloc (Nat.le_refl _) _
  have h1 := h.below hb0
  have hG := h.good
  have HG := Lib.hid hG
  have K1 := Lib.hid (Keeps.of_below (F := Or9 rb g vo) hb0)
  have A1 := Lib.hid (AB.fresh w b)
  have hgz : g ≠ w.heap.size := Nat.ne_of_lt h.lay.lt
  obtain ⟨d0, d1, d2⟩ := A1.out.all
  have H1 := Lib.hid h1
  have hlo := hG.hi
  have HI := Lib.hid hi
  have HB := Lib.hid hb
  clear h h1 hb0
  rcases at_cases hG b.id with ⟨e1, e2⟩ | ⟨k, c, e1, e2, e3, e4⟩
  · have HA := Lib.hid (rat_row H1.out b.id)
    rw [e1] at HA
    rw [lay_none i e2]
    have hG2 : GoodL (L.set i (some b)) := by rw [← lay_none i e2]; exact goodL_layL hG hi hb
    have HG2 := Lib.hid hG2
    clear e1 e2 hG hG2
    obtain ⟨-, c1, -, -⟩ := H1.out.cells
    have f0 := H1.out.lay.frozen (i * 3)
    have f1 := H1.out.lay.frozen (i * 3 + 1)
    have f2 := H1.out.lay.frozen (i * 3 + 2)
    have hiI : (i : Int) < (L.length : Int) := by omega
    have hi0 : (0 : Int) ≤ (i : Int) := by omega
    obtain ⟨n, hL⟩ : ∃ n, L.length = n := ⟨_, rfl⟩
    rw [hL] at c1 hiI hlo
    have HN := Lib.hid hL
    clear hL hi
    go_enter Tryz.func46, Tryz.ntmps46
    go_wp2_with (go_at_call 51; refine HA.out.mono ?_; rintro e w' ⟨rfl, rfl⟩)
    go_quiet (fail)
    go_wp2_with fail
    have hbq : Below (w.alloc (.cells b.cells 37)).heap.size (w.alloc (.cells b.cells 37)) ((w.alloc (.cells b.cells 37)).drewN nq) := below_drewN (Below.refl _ _) nq
    have H3 := Lib.hid (H1.out.below hbq)
    have A3 := Lib.hid (A1.out.below hbq)
    have K3 := Lib.hid (K1.out.then_below hbq)
    clear hbq c1 f0 f1 f2 d0 d1 d2
    generalize (w.alloc (.cells b.cells 37)).drewN nq = w2 at H3 A3 K3 ⊢
    obtain ⟨-, c1, -, -⟩ := H3.out.cells
    rw [HN.out] at c1
    have f0 := H3.out.lay.frozen (i * 3)
    have f1 := H3.out.lay.frozen (i * 3 + 1)
    have f2 := H3.out.lay.frozen (i * 3 + 2)
    obtain ⟨d0, d1, d2⟩ := A3.out.all
    obtain ⟨s0, s1, s2⟩ := H3.out.sec HI.out
    have H4 := Lib.hid ((H3.out.setSec (o := some b) (b := b) HI.out rfl HG2.out).below (Below.refl _ _).drew)
    have K4 := Lib.hid (K3.out.trans ((Rb9.setSecK rb vo w2 g (i * 3) (i * 3 + 1) (i * 3 + 2) (.int .i64 b.id) (.int .i64 b.ver) (.string b.data)).then_below (Below.refl _ _).drew) (fun _ h => .inl h))
    clear H3 A3 K3
    go_region
    go_end0
    exact ⟨rfl, H4.out, K4.out⟩
  · have HA := Lib.hid (rat_row H1.out b.id)
    rw [e1] at HA
    rw [lay_some hG i e2 e3]
    obtain ⟨-, c1, -, -⟩ := H1.out.cells
    have hk := e2.lt
    obtain ⟨s0, s1, s2⟩ := H1.out.sec hk
    rw [bkA_at e2] at s0 s1 s2
    have f0 := H1.out.lay.frozen (k * 3)
    have f1 := H1.out.lay.frozen (k * 3 + 1)
    have f2 := H1.out.lay.frozen (k * 3 + 2)
    have hkI : (k : Int) < (L.length : Int) := by omega
    have hk0 : (0 : Int) ≤ (k : Int) := by omega
    have hiI : (i : Int) < (L.length : Int) := by omega
    have hi0 : (0 : Int) ≤ (i : Int) := by omega
    obtain ⟨n, hL⟩ : ∃ n, L.length = n := ⟨_, rfl⟩
    rw [hL] at c1 hiI hkI hlo
    have HN := Lib.hid hL
    by_cases hv : c.ver < b.ver
    · rw [if_pos hv]
      have hv1 : decide (b.ver ≤ c.ver) = false := decide_eq_false (by omega)
      have hv2 : ¬ b.ver ≤ c.ver := by omega
      have HG1 := Lib.hid (goodL_set_none hG k)
      have HG2 := Lib.hid (show GoodL ((L.set k none).set i (some b)) from by
        have := goodL_layL (i := i) hG hi hb
        rwa [lay_some hG i e2 e3, if_pos hv] at this)
      have HK := Lib.hid hk
      clear e1 e2 e3 e4 hG hk hL hi hv
      go_enter Tryz.func46, Tryz.ntmps46
      go_wp2_with (go_at_call 51; refine HA.out.mono ?_; rintro e w' ⟨rfl, rfl⟩)
      go_quiet (fail)
      have hbq : Below (w.alloc (.cells b.cells 37)).heap.size (w.alloc (.cells b.cells 37)) ((w.alloc (.cells b.cells 37)).drewN nq) := below_drewN (Below.refl _ _) nq
      have H2 := Lib.hid (H1.out.below hbq)
      have A2 := Lib.hid (A1.out.below hbq)
      have K2 := Lib.hid (K1.out.then_below hbq)
      clear hbq c1 f0 f1 f2 s0 s1 s2 d0 d1 d2
      generalize (w.alloc (.cells b.cells 37)).drewN nq = w1 at H2 A2 K2 ⊢
      obtain ⟨-, c1, -, -⟩ := H2.out.cells
      rw [HN.out] at c1
      have f0 := H2.out.lay.frozen (k * 3)
      have f1 := H2.out.lay.frozen (k * 3 + 1)
      have f2 := H2.out.lay.frozen (k * 3 + 2)
      obtain ⟨s0, s1, s2⟩ := H2.out.sec HK.out
      have H3 := Lib.hid (show Rb9 (((w1.setCell ⟨g, k * 3, none⟩ (.int .i64 0)).setCell ⟨g, k * 3 + 1, none⟩ (.int .i64 0)).setCell ⟨g, k * 3 + 2, none⟩ (.string ⟨#[]⟩)) rb g rp vo (L.set k none) odd lost from H2.out.setSec (o := none) (b := Bk.zero) HK.out rfl HG1.out)
      have K3 := Lib.hid (K2.out.trans (Rb9.setSecK rb vo w1 g (k * 3) (k * 3 + 1) (k * 3 + 2) (.int .i64 0) (.int .i64 0) (.string ⟨#[]⟩)) (fun _ h => .inl h))
      have hne : w.heap.size ≠ g := fun e => hgz e.symm
      have A3 := Lib.hid (show AB (((w1.setCell ⟨g, k * 3, none⟩ (.int .i64 0)).setCell ⟨g, k * 3 + 1, none⟩ (.int .i64 0)).setCell ⟨g, k * 3 + 2, none⟩ (.string ⟨#[]⟩)) w.heap.size b from (((Below.heap_setCell _ ⟨g, k * 3 + 2, none⟩ (.string ⟨#[]⟩) w.heap.size hne).trans (Below.heap_setCell _ ⟨g, k * 3 + 1, none⟩ (.int .i64 0) w.heap.size hne)).trans (Below.heap_setCell _ ⟨g, k * 3, none⟩ (.int .i64 0) w.heap.size hne)).trans A2.out)
      go_wp2_with fail
      clear c1 f0 f1 f2 s0 s1 s2 H2 A2 K2
      generalize (((w1.setCell ⟨g, k * 3, none⟩ (.int .i64 0)).setCell ⟨g, k * 3 + 1, none⟩ (.int .i64 0)).setCell ⟨g, k * 3 + 2, none⟩ (.string ⟨#[]⟩)) = w2 at H3 A3 K3 ⊢
      obtain ⟨-, c1, -, -⟩ := H3.out.cells
      rw [List.length_set, HN.out] at c1
      have f0 := H3.out.lay.frozen (i * 3)
      have f1 := H3.out.lay.frozen (i * 3 + 1)
      have f2 := H3.out.lay.frozen (i * 3 + 2)
      obtain ⟨d0, d1, d2⟩ := A3.out.all
      have HI2 := Lib.hid (show i < (L.set k none).length from by rw [List.length_set]; exact HI.out)
      obtain ⟨s0, s1, s2⟩ := H3.out.sec HI2.out
      have H4 := Lib.hid ((H3.out.setSec (o := some b) (b := b) HI2.out rfl HG2.out).below (Below.refl _ _).drew)
      have K4 := Lib.hid (K3.out.trans ((Rb9.setSecK rb vo w2 g (i * 3) (i * 3 + 1) (i * 3 + 2) (.int .i64 b.id) (.int .i64 b.ver) (.string b.data)).then_below (Below.refl _ _).drew) (fun _ h => .inl h))
      clear H3 A3 K3
      go_region
      go_end0
      exact ⟨rfl, H4.out, K4.out⟩
    · rw [if_neg hv]
      have hv1 : decide (b.ver ≤ c.ver) = true := decide_eq_true (by omega)
      have hv2 : b.ver ≤ c.ver := by omega
      have hbq := fun nq => below_drewN (Below.refl (w.alloc (.cells b.cells 37)).heap.size (w.alloc (.cells b.cells 37))) nq
      have H2 := Lib.hid (fun nq => H1.out.below (hbq nq))
      have K2 := Lib.hid (fun nq => K1.out.then_below (hbq nq))
      clear e1 e2 e3 e4 hG hk hL hi hv hbq
      go_enter Tryz.func46, Tryz.ntmps46
      go_wp2_with (go_at_call 51; refine HA.out.mono ?_; rintro e w' ⟨rfl, rfl⟩)
      go_quiet (fail)
      go_wp2
      exact bodyPost_ret (results_none rfl _ _ _) rfl ⟨rfl, H2.out _, K2.out _⟩

/-! ### List -/
theorem ids_take (k : Nat) (h : k < 256) : ids[k]? = some (k : Int) := by
  unfold ids
  rw [List.getElem?_map, List.getElem?_range h]; rfl
theorem list_step {L : Lay} {k : Nat} (h : k < 256) : (ids.take (k + 1)).filterMap (getL L) = (ids.take k).filterMap (getL L) ++ (match getL L (k : Int) with | some b => [b] | none => []) := by
  have e : ids.take (k + 1) = ids.take k ++ [(k : Int)] := by rw [List.take_add_one, ids_take k h]; rfl
  rw [e, List.filterMap_append]
  congr 1
  cases h : getL L (k : Int) <;> simp [h]
theorem list_few (L : Lay) (k : Nat) : ((ids.take k).filterMap (getL L)).length ≤ 256 := by
  have h1 := List.length_filterMap_le (getL L) (ids.take k)
  have h2 : (ids.take k).length ≤ 256 := by rw [List.length_take]; have : ids.length = 256 := by simp [ids]
                                            omega
  omega
set_option maxRecDepth 100000 in
set_option maxHeartbeats 4000000 in
theorem rlist_row (h : Rb9 w rb g rp vo L odd lost) :
    Calls Tryz.prog 31 #[.pointer (some ⟨rb, 0, none⟩)] w fun e w' => ∃ v, e = .returned v ∧ OwnsB 37 w' w.heap.size v (listL L) ∧ Below w.heap.size w w' := by
  obtain ⟨i0, hi0, hz0, hz1, hz2⟩ := info_parts infoB
  have HS := Lib.hid h
  have hG := Lib.hid h.good
  have hlo := h.good.hi
  have hba : Below w.heap.size w (w.alloc (.cells #[] 37)) := (Below.refl _ _).alloc (Nat.le_refl _) _
  have B0 := Lib.hid hba
  have O0 := Lib.hid (OwnsB.lit (e := 37) (w := w) (base := w.heap.size) (Nat.le_refl _))
  clear h hba
  go_enter Tryz.func31, Tryz.ntmps31
  go_wp2
  go_loopw [3, 4] (fun v iv wr => ∃ k : Nat, k ≤ 256 ∧ iv = .int .i64 k ∧ OwnsB 37 wr w.heap.size v ((ids.take k).filterMap (getL L)) ∧ Below w.heap.size w wr) (fun _ iv _ => 256 - (RowKit.intOf iv).toNat)
  case atStart => exact ⟨0, Nat.zero_le _, rfl, O0.out, B0.out⟩
  case round =>
    obtain ⟨k, hk, rfl, ho, hb⟩ := hrel
    have HO := Lib.hid ho
    have HB := Lib.hid hb
    have hfew := list_few L k
    clear ho hb B0 O0
    by_cases hlt : k < 256
    · have hlI : (k : Int) < 256 := by omega
      have hst := list_step (L := L) hlt
      have H1 := Lib.hid (HS.out.below HB.out)
      have HA := Lib.hid (rat_row H1.out (k : Int))
      rcases at_cases hG.out (k : Int) with ⟨e1, e2⟩ | ⟨j, b, e1, e2, e3, e4⟩
      · rw [e1] at HA
        rw [e2] at hst
        have HSt := Lib.hid (show (ids.take (k + 1)).filterMap (getL L) = (ids.take k).filterMap (getL L) from by rw [hst]; simp)
        clear e1 e2 hst
        go_wp2_with (go_at_call 51; refine HA.out.mono ?_; rintro e w' ⟨rfl, rfl⟩)
        go_roundw
        case rel => exact ⟨k + 1, by omega, by go_num, by rw [HSt.out]; exact HO.out, HB.out⟩
        case measure => simp only [RowKit.intOf]; omega
      · rw [e1] at HA
        rw [e4] at hst
        have HSt := Lib.hid hst
        obtain ⟨-, c1, -, -⟩ := H1.out.cells
        have hj := e2.lt
        obtain ⟨s0, s1, s2⟩ := H1.out.sec hj
        rw [bkA_at e2] at s0 s1 s2
        have hjI : (j : Int) < (L.length : Int) := by omega
        have hj0 : (0 : Int) ≤ (j : Int) := by omega
        generalize L.length = n at c1 hjI hlo
        generalize hl : (ids.take k).filterMap (getL L) = l at HO HSt hfew
        have HW := Lib.hid (bnews1 wr b 37)
        have hba : Below wr.heap.size wr (wr.alloc (.cells b.cells 37)) := (Below.refl _ _).alloc (Nat.le_refl _) _
        have HBA := Lib.hid hba
        clear hba e1 e2 e3 e4 hst hj hl
        go_wp2_with (first
          | (go_at_call 51; refine HA.out.mono ?_; rintro e w' ⟨rfl, rfl⟩)
          | (at_builtin; refine wpList_append_lies _ rfl (.tmp 16) (.tmp 24) 50 rfl w.heap.size 37 i0 _ 3 32 Tryz.underlying50 hi0 hz0 hz1 hz2 rfl (by decide) _ _ _ rfl (HO.out.below HBA.out) ⟨wr.heap.size, 0, none⟩ 1 1 (bflat [b]) rfl (by simp [bflat]) HW.out (bflat_oneCell _) (by decide) (by unfold maxLen; omega) (by omega) (by have := HB.out.size; simp; omega) (wr.heap.size + 1) (by simp) ?_; intro g' cap w3 hown hgrow _ _; (have K2 := Lib.hid (below_grown (HB.out.trans (HBA.out.mono HB.out.size)) hgrow (by have := HB.out.size; simp; omega) (fun q hq => (HO.out.lt hq).1))); have K3 := Lib.hid (OwnsB.snoc hown); clear hown hgrow))
        go_roundw
        case rel => exact ⟨k + 1, by omega, by go_num, by rw [HSt.out]; exact K3.out, K2.out⟩
        case measure => simp only [RowKit.intOf]; omega
    · obtain rfl : k = 256 := by omega
      have hlI : ¬ (((256 : Nat) : Int) < 256) := by omega
      have HE := Lib.hid (show (ids.take 256).filterMap (getL L) = listL L from by rw [List.take_of_length_le (by simp [ids])]; rfl)
      clear hlt
      go_wp2
      go_ret
      exact ⟨_, rfl, by rw [← HE.out]; exact HO.out, HB.out⟩

/-! ### Free -/
set_option maxRecDepth 100000 in
set_option maxHeartbeats 2000000 in
theorem rfree_row (h : Rb9 w rb g rp vo L odd lost) :
    Calls Tryz.prog 33 #[.pointer (some ⟨rb, 0, none⟩)] w fun e w' => e = .returned (.int .i64 ((L.length : Int) - (cnt L : Int))) ∧ Below w.heap.size w w' := by
  have hlo := h.good.hi
  have hlen := list_length h.good
  have hc := cnt_le L
  have hw : IntKind.i64.wrap ((L.length : Int) - (cnt L : Int)) = (L.length : Int) - (cnt L : Int) := IntWalk.i64_in _ (by omega)
  have hb : Below w.heap.size w w.drew := (Below.refl _ _).drew
  have H0 := Lib.hid h
  have H1 := Lib.hid (h.below hb)
  have HL := Lib.hid (rlist_row (h.below hb))
  obtain ⟨-, c1, -, -⟩ := h.cells
  have HE := Lib.hid hlen
  clear h hb hlen hlo hc
  go_enter Tryz.func33, Tryz.ntmps33
  go_wp2_with fail
  go_region_held3 (fun w' => w'.cell? ⟨rb, 1, none⟩ = some (.slice (some ⟨g, 0, none⟩) L.length L.length))
    (first | exact H1.out.cells.2.1 | exact H2.out.cells.2.1 | fail)
    (first
      | (go_at_call 31; (with_reducible refine HL.out.mono ?_); rintro e w2 ⟨v2, rfl, k1, k2⟩; obtain ⟨A2, c2, rfl, -⟩ := bshape k1; rw [HE.out]; have H2 := Lib.hid (H1.out.below k2); have B2 := Lib.hid (((Below.refl w.heap.size w).drew).trans k2); clear k1 k2)
      | fail)
  go_wp2
  go_ret
  exact ⟨rfl, B2.out⟩
end
end Go.Proofs.YtacdbfaoeioflaaGreatDoor
