/-
  lay, List, Free of the document's own shelf (weirkeepref09), by contracts.

  put of the document's own shelf (weirkeepref09), by contracts.
-/
import Derived.Test.YtmmpknfkncgjpaaGreatDoorM33
import Derived.Test.YtmmpknfkncgjpaaGreatDoorM34
import Derived.BigQuiet
import Derived.Test.YtmmpknfkncgjpaaGreatDoorM28
import Derived.Test.YtmmpknfkncgjpaaGreatDoorM30
namespace Go.Proofs.YtmmpknfkncgjpaaGreatDoor
open Go.RowKit

/-! ### the plain part -/
/-- What lay leaves. -/
def layL (L : Lay) (i : Nat) (b : Bk) : Lay := if newer L b then putL L i b else L
theorem layL_length (L : Lay) (i : Nat) (b : Bk) : (layL L i b).length = L.length := by
  unfold layL; split
  · exact putL_length _ _ _
  · rfl
theorem wo_set {L : Lay} (hG : GoodL L) {k : Nat} {c : Bk} (hk : At L k c) : woL L c.id = L.set k none := by
  apply List.ext_getElem?
  intro j
  unfold woL
  rw [List.getElem?_map, List.getElem?_set]
  by_cases e : k = j
  · subst e
    rw [if_pos rfl, if_pos hk.lt, show L[k]? = some (some c) from hk]
    simp [hasId]
  · rw [if_neg e]
    cases hj : L[j]? with
    | none => rfl
    | some o =>
      cases o with
      | none => rfl
      | some d =>
        have : d.id ≠ c.id := fun h => e (hG.un k j c d hk hj h.symm)
        simp [hasId, this]
theorem lay_none {L : Lay} {b : Bk} (i : Nat) (h : getL L b.id = none) : layL L i b = L.set i (some b) := by
  unfold layL newer
  rw [h]
  simp only [if_true]
  unfold putL
  rw [woL_self h]
theorem lay_some {L : Lay} (hG : GoodL L) {b c : Bk} {k : Nat} (i : Nat) (hk : At L k c) (e : c.id = b.id) : layL L i b = if c.ver < b.ver then (L.set k none).set i (some b) else L := by
  unfold layL newer
  rw [← e, getL_at hG hk]
  simp only [decide_eq_true_eq]
  unfold putL
  rw [← e, wo_set hG hk]
theorem goodL_layL {L : Lay} (hG : GoodL L) {i : Nat} (hi : i < L.length) {b : Bk} (hb : refE b 1 = 0) : GoodL (layL L i b) := by
  unfold layL; split
  · exact hG.put hi hb
  · exact hG
theorem goodL_set_none {L : Lay} (hG : GoodL L) (k : Nat) : GoodL (L.set k none) := by
  have hat : ∀ i b, At (L.set k none) i b → At L i b := fun i b h => by
    unfold At at h ⊢
    rw [List.getElem?_set] at h
    by_cases e : k = i
    · rw [if_pos e] at h; split at h <;> simp at h
    · rwa [if_neg e] at h
  exact ⟨by rw [List.length_set]; exact hG.hi, fun i b h => hG.ok i b (hat i b h), fun i j b c hb hc => hG.un i j b c (hat i b hb) (hat j c hc)⟩

section
variable {w : World} {rb g rp : Nat} {vo : Value} {L : Lay} {odd : List Nat} {lost : Bool}
theorem Rb9.setSecK (rb : Nat) (vo : Value) (w : World) (g o0 o1 o2 : Nat) (x0 x1 x2 : Value) : Keeps (Or9 rb g vo) w (((w.setCell ⟨g, o0, none⟩ x0).setCell ⟨g, o1, none⟩ x1).setCell ⟨g, o2, none⟩ x2) :=
  (((Keeps.refl _ w).set (b := g) (.inl (.inr (.inl rfl))) _).set (b := g) (.inl (.inr (.inl rfl))) _).set (b := g) (.inl (.inr (.inl rfl))) _
/-- What its calls leave that turn its list alone. -/
def Laid (w w' : World) (rb g rp : Nat) (vo : Value) (L : Lay) (odd : List Nat) (lost : Bool) : Prop := Rb9 w' rb g rp vo L odd lost ∧ Keeps (Or9 rb g vo) w w'
set_option maxRecDepth 100000 in
set_option maxHeartbeats 4000000 in
theorem rlay_row (h : Rb9 w rb g rp vo L odd lost) {i : Nat} (hi : i < L.length) {b : Bk} (hb : refE b 1 = 0) :
    Calls Tryz.prog 98 #[.pointer (some ⟨rb, 0, none⟩), .int .i64 i, b.val] w fun e w' => e = .returned (.tuple #[]) ∧ Laid w w' rb g rp vo (layL L i b) odd lost := by
  have hb0 : Below w.heap.size w (w.alloc (.cells b.cells 34)) := (Below.refl _ _).alloc (Nat.le_refl _) _
  have h1 := h.below hb0
  have hG := h.good
  have HG := Lib.hid hG
  have K1 := Lib.hid (Keeps.of_below (F := Or9 rb g vo) hb0)
  have A1 := Lib.hid (AB.fresh w b)
  have hgz : g ≠ w.heap.size := Nat.ne_of_lt h.lay.lt
  obtain ⟨d0, d1, d2⟩ := A1.out.all
  have H1 := Lib.hid h1
  have hlo := hG.hi
  have HI := Lib.hid hi
  have HB := Lib.hid hb
  clear h h1 hb0
  rcases at_cases hG b.id with ⟨e1, e2⟩ | ⟨k, c, e1, e2, e3, e4⟩
  · have HA := Lib.hid (rat_row H1.out b.id)
    rw [e1] at HA
    rw [lay_none i e2]
    have hG2 : GoodL (L.set i (some b)) := by rw [← lay_none i e2]; exact goodL_layL hG hi hb
    have HG2 := Lib.hid hG2
    clear e1 e2 hG hG2
    obtain ⟨-, c1, -, -⟩ := H1.out.cells
    have f0 := H1.out.lay.frozen (i * 3)
    have f1 := H1.out.lay.frozen (i * 3 + 1)
    have f2 := H1.out.lay.frozen (i * 3 + 2)
    have hiI : (i : Int) < (L.length : Int) := by omega
    have hi0 : (0 : Int) ≤ (i : Int) := by omega
    obtain ⟨n, hL⟩ : ∃ n, L.length = n := ⟨_, rfl⟩
    rw [hL] at c1 hiI hlo
    have HN := Lib.hid hL
    clear hL hi
    go_enter Tryz.func98, Tryz.ntmps98
    go_wp2_with (go_at_call 42; refine HA.out.mono ?_; rintro e w' ⟨rfl, rfl⟩)
    go_quiet (fail)
    go_wp2_with fail
    have hbq : Below (w.alloc (.cells b.cells 34)).heap.size (w.alloc (.cells b.cells 34)) ((w.alloc (.cells b.cells 34)).drewN nq) := below_drewN (Below.refl _ _) nq
    have H3 := Lib.hid (H1.out.below hbq)
    have A3 := Lib.hid (A1.out.below hbq)
    have K3 := Lib.hid (K1.out.then_below hbq)
    clear hbq c1 f0 f1 f2 d0 d1 d2
    generalize (w.alloc (.cells b.cells 34)).drewN nq = w2 at H3 A3 K3 ⊢
    obtain ⟨-, c1, -, -⟩ := H3.out.cells
    rw [HN.out] at c1
    have f0 := H3.out.lay.frozen (i * 3)
    have f1 := H3.out.lay.frozen (i * 3 + 1)
    have f2 := H3.out.lay.frozen (i * 3 + 2)
    obtain ⟨d0, d1, d2⟩ := A3.out.all
    obtain ⟨s0, s1, s2⟩ := H3.out.sec HI.out
    have H4 := Lib.hid ((H3.out.setSec (o := some b) (b := b) HI.out rfl HG2.out).below (Below.refl _ _).drew)
    have K4 := Lib.hid (K3.out.trans ((Rb9.setSecK rb vo w2 g (i * 3) (i * 3 + 1) (i * 3 + 2) (.int .i64 b.id) (.int .i64 b.ver) (.string b.data)).then_below (Below.refl _ _).drew) (fun _ h => .inl h))
    clear H3 A3 K3
    go_region
    go_end0
    exact ⟨rfl, H4.out, K4.out⟩
  · have HA := Lib.hid (rat_row H1.out b.id)
    rw [e1] at HA
    rw [lay_some hG i e2 e3]
    obtain ⟨-, c1, -, -⟩ := H1.out.cells
    have hk := e2.lt
    obtain ⟨s0, s1, s2⟩ := H1.out.sec hk
    rw [bkA_at e2] at s0 s1 s2
    have f0 := H1.out.lay.frozen (k * 3)
    have f1 := H1.out.lay.frozen (k * 3 + 1)
    have f2 := H1.out.lay.frozen (k * 3 + 2)
    have hkI : (k : Int) < (L.length : Int) := by omega
    have hk0 : (0 : Int) ≤ (k : Int) := by omega
    have hiI : (i : Int) < (L.length : Int) := by omega
    have hi0 : (0 : Int) ≤ (i : Int) := by omega
    obtain ⟨n, hL⟩ : ∃ n, L.length = n := ⟨_, rfl⟩
    rw [hL] at c1 hiI hkI hlo
    have HN := Lib.hid hL
    by_cases hv : c.ver < b.ver
    · rw [if_pos hv]
      have hv1 : decide (b.ver ≤ c.ver) = false := decide_eq_false (by omega)
      have hv2 : ¬ b.ver ≤ c.ver := by omega
      have HG1 := Lib.hid (goodL_set_none hG k)
      have HG2 := Lib.hid (show GoodL ((L.set k none).set i (some b)) from by
        have := goodL_layL (i := i) hG hi hb
        rwa [lay_some hG i e2 e3, if_pos hv] at this)
      have HK := Lib.hid hk
      clear e1 e2 e3 e4 hG hk hL hi hv
      go_enter Tryz.func98, Tryz.ntmps98
      go_wp2_with (go_at_call 42; refine HA.out.mono ?_; rintro e w' ⟨rfl, rfl⟩)
      go_quiet (fail)
      have hbq : Below (w.alloc (.cells b.cells 34)).heap.size (w.alloc (.cells b.cells 34)) ((w.alloc (.cells b.cells 34)).drewN nq) := below_drewN (Below.refl _ _) nq
      have H2 := Lib.hid (H1.out.below hbq)
      have A2 := Lib.hid (A1.out.below hbq)
      have K2 := Lib.hid (K1.out.then_below hbq)
      clear hbq c1 f0 f1 f2 s0 s1 s2 d0 d1 d2
      generalize (w.alloc (.cells b.cells 34)).drewN nq = w1 at H2 A2 K2 ⊢
      obtain ⟨-, c1, -, -⟩ := H2.out.cells
      rw [HN.out] at c1
      have f0 := H2.out.lay.frozen (k * 3)
      have f1 := H2.out.lay.frozen (k * 3 + 1)
      have f2 := H2.out.lay.frozen (k * 3 + 2)
      obtain ⟨s0, s1, s2⟩ := H2.out.sec HK.out
      have H3 := Lib.hid (show Rb9 (((w1.setCell ⟨g, k * 3, none⟩ (.int .i64 0)).setCell ⟨g, k * 3 + 1, none⟩ (.int .i64 0)).setCell ⟨g, k * 3 + 2, none⟩ (.string ⟨#[]⟩)) rb g rp vo (L.set k none) odd lost from H2.out.setSec (o := none) (b := Bk.zero) HK.out rfl HG1.out)
      have K3 := Lib.hid (K2.out.trans (Rb9.setSecK rb vo w1 g (k * 3) (k * 3 + 1) (k * 3 + 2) (.int .i64 0) (.int .i64 0) (.string ⟨#[]⟩)) (fun _ h => .inl h))
      have hne : w.heap.size ≠ g := fun e => hgz e.symm
      have A3 := Lib.hid (show AB (((w1.setCell ⟨g, k * 3, none⟩ (.int .i64 0)).setCell ⟨g, k * 3 + 1, none⟩ (.int .i64 0)).setCell ⟨g, k * 3 + 2, none⟩ (.string ⟨#[]⟩)) w.heap.size b from (((Below.heap_setCell _ ⟨g, k * 3 + 2, none⟩ (.string ⟨#[]⟩) w.heap.size hne).trans (Below.heap_setCell _ ⟨g, k * 3 + 1, none⟩ (.int .i64 0) w.heap.size hne)).trans (Below.heap_setCell _ ⟨g, k * 3, none⟩ (.int .i64 0) w.heap.size hne)).trans A2.out)
      go_wp2_with fail
      clear c1 f0 f1 f2 s0 s1 s2 H2 A2 K2
      generalize (((w1.setCell ⟨g, k * 3, none⟩ (.int .i64 0)).setCell ⟨g, k * 3 + 1, none⟩ (.int .i64 0)).setCell ⟨g, k * 3 + 2, none⟩ (.string ⟨#[]⟩)) = w2 at H3 A3 K3 ⊢
      obtain ⟨-, c1, -, -⟩ := H3.out.cells
      rw [List.length_set, HN.out] at c1
      have f0 := H3.out.lay.frozen (i * 3)
      have f1 := H3.out.lay.frozen (i * 3 + 1)
      have f2 := H3.out.lay.frozen (i * 3 + 2)
      obtain ⟨d0, d1, d2⟩ := A3.out.all
      have HI2 := Lib.hid (show i < (L.set k none).length from by rw [List.length_set]; exact HI.out)
      obtain ⟨s0, s1, s2⟩ := H3.out.sec HI2.out
      have H4 := Lib.hid ((H3.out.setSec (o := some b) (b := b) HI2.out rfl HG2.out).below (Below.refl _ _).drew)
      have K4 := Lib.hid (K3.out.trans ((Rb9.setSecK rb vo w2 g (i * 3) (i * 3 + 1) (i * 3 + 2) (.int .i64 b.id) (.int .i64 b.ver) (.string b.data)).then_below (Below.refl _ _).drew) (fun _ h => .inl h))
      clear H3 A3 K3
      go_region
      go_end0
      exact ⟨rfl, H4.out, K4.out⟩
    · rw [if_neg hv]
      have hv1 : decide (b.ver ≤ c.ver) = true := decide_eq_true (by omega)
      have hv2 : b.ver ≤ c.ver := by omega
      have hbq := fun nq => below_drewN (Below.refl (w.alloc (.cells b.cells 34)).heap.size (w.alloc (.cells b.cells 34))) nq
      have H2 := Lib.hid (fun nq => H1.out.below (hbq nq))
      have K2 := Lib.hid (fun nq => K1.out.then_below (hbq nq))
      clear e1 e2 e3 e4 hG hk hL hi hv hbq
      go_enter Tryz.func98, Tryz.ntmps98
      go_wp2_with (go_at_call 42; refine HA.out.mono ?_; rintro e w' ⟨rfl, rfl⟩)
      go_quiet (fail)
      go_wp2
      exact bodyPost_ret (results_none rfl _ _ _) rfl ⟨rfl, H2.out _, K2.out _⟩

/-! ### List -/
theorem ids_take (k : Nat) (h : k < 256) : ids[k]? = some (k : Int) := by
  unfold ids
  rw [List.getElem?_map, List.getElem?_range h]; rfl
theorem list_step {L : Lay} {k : Nat} (h : k < 256) : (ids.take (k + 1)).filterMap (getL L) = (ids.take k).filterMap (getL L) ++ (match getL L (k : Int) with | some b => [b] | none => []) := by
  have e : ids.take (k + 1) = ids.take k ++ [(k : Int)] := by rw [List.take_add_one, ids_take k h]; rfl
  rw [e, List.filterMap_append]
  congr 1
  cases h : getL L (k : Int) <;> simp [h]
theorem list_few (L : Lay) (k : Nat) : ((ids.take k).filterMap (getL L)).length ≤ 256 := by
  have h1 := List.length_filterMap_le (getL L) (ids.take k)
  have h2 : (ids.take k).length ≤ 256 := by rw [List.length_take]; have : ids.length = 256 := by simp [ids]
                                            omega
  omega
set_option maxRecDepth 100000 in
set_option maxHeartbeats 4000000 in
theorem rlist_row (h : Rb9 w rb g rp vo L odd lost) :
    Calls Tryz.prog 18 #[.pointer (some ⟨rb, 0, none⟩)] w fun e w' => ∃ v, e = .returned v ∧ OwnsB 34 w' w.heap.size v (listL L) ∧ Below w.heap.size w w' := by
  obtain ⟨i0, hi0, hz0, hz1, hz2⟩ := info_parts infoB
  have HS := Lib.hid h
  have hG := Lib.hid h.good
  have hlo := h.good.hi
  have hba : Below w.heap.size w (w.alloc (.cells #[] 34)) := (Below.refl _ _).alloc (Nat.le_refl _) _
  have B0 := Lib.hid hba
  have O0 := Lib.hid (OwnsB.lit (e := 34) (w := w) (base := w.heap.size) (Nat.le_refl _))
  clear h hba
  go_enter Tryz.func18, Tryz.ntmps18
  go_wp2
  go_loopw [3, 4] (fun v iv wr => ∃ k : Nat, k ≤ 256 ∧ iv = .int .i64 k ∧ OwnsB 34 wr w.heap.size v ((ids.take k).filterMap (getL L)) ∧ Below w.heap.size w wr) (fun _ iv _ => 256 - (RowKit.intOf iv).toNat)
  case atStart => exact ⟨0, Nat.zero_le _, rfl, O0.out, B0.out⟩
  case round =>
    obtain ⟨k, hk, rfl, ho, hb⟩ := hrel
    have HO := Lib.hid ho
    have HB := Lib.hid hb
    have hfew := list_few L k
    clear ho hb B0 O0
    by_cases hlt : k < 256
    · have hlI : (k : Int) < 256 := by omega
      have hst := list_step (L := L) hlt
      have H1 := Lib.hid (HS.out.below HB.out)
      have HA := Lib.hid (rat_row H1.out (k : Int))
      rcases at_cases hG.out (k : Int) with ⟨e1, e2⟩ | ⟨j, b, e1, e2, e3, e4⟩
      · rw [e1] at HA
        rw [e2] at hst
        have HSt := Lib.hid (show (ids.take (k + 1)).filterMap (getL L) = (ids.take k).filterMap (getL L) from by rw [hst]; simp)
        clear e1 e2 hst
        go_wp2_with (go_at_call 42; refine HA.out.mono ?_; rintro e w' ⟨rfl, rfl⟩)
        go_roundw
        case rel => exact ⟨k + 1, by omega, by go_num, by rw [HSt.out]; exact HO.out, HB.out⟩
        case measure => simp only [RowKit.intOf]; omega
      · rw [e1] at HA
        rw [e4] at hst
        have HSt := Lib.hid hst
        obtain ⟨-, c1, -, -⟩ := H1.out.cells
        have hj := e2.lt
        obtain ⟨s0, s1, s2⟩ := H1.out.sec hj
        rw [bkA_at e2] at s0 s1 s2
        have hjI : (j : Int) < (L.length : Int) := by omega
        have hj0 : (0 : Int) ≤ (j : Int) := by omega
        generalize L.length = n at c1 hjI hlo
        generalize hl : (ids.take k).filterMap (getL L) = l at HO HSt hfew
        have HW := Lib.hid (bnews1 wr b 34)
        have hba : Below wr.heap.size wr (wr.alloc (.cells b.cells 34)) := (Below.refl _ _).alloc (Nat.le_refl _) _
        have HBA := Lib.hid hba
        clear hba e1 e2 e3 e4 hst hj hl
        go_wp2_with (first
          | (go_at_call 42; refine HA.out.mono ?_; rintro e w' ⟨rfl, rfl⟩)
          | (at_builtin; refine wpList_append_lies _ rfl (.tmp 16) (.tmp 24) 54 rfl w.heap.size 34 i0 _ 3 32 Tryz.underlying54 hi0 hz0 hz1 hz2 rfl (by decide) _ _ _ rfl (HO.out.below HBA.out) ⟨wr.heap.size, 0, none⟩ 1 1 (bflat [b]) rfl (by simp [bflat]) HW.out (bflat_oneCell _) (by decide) (by unfold maxLen; omega) (by omega) (by have := HB.out.size; simp; omega) (wr.heap.size + 1) (by simp) ?_; intro g' cap w3 hown hgrow _ _; (have K2 := Lib.hid (below_grown (HB.out.trans (HBA.out.mono HB.out.size)) hgrow (by have := HB.out.size; simp; omega) (fun q hq => (HO.out.lt hq).1))); have K3 := Lib.hid (OwnsB.snoc hown); clear hown hgrow))
        go_roundw
        case rel => exact ⟨k + 1, by omega, by go_num, by rw [HSt.out]; exact K3.out, K2.out⟩
        case measure => simp only [RowKit.intOf]; omega
    · obtain rfl : k = 256 := by omega
      have hlI : ¬ (((256 : Nat) : Int) < 256) := by omega
      have HE := Lib.hid (show (ids.take 256).filterMap (getL L) = listL L from by rw [List.take_of_length_le (by simp [ids])]; rfl)
      clear hlt
      go_wp2
      go_ret
      exact ⟨_, rfl, by rw [← HE.out]; exact HO.out, HB.out⟩

/-! ### Free -/
end
end Go.Proofs.YtmmpknfkncgjpaaGreatDoor

namespace Go.Proofs.YtmmpknfkncgjpaaGreatDoor
open Go.RowKit

section
variable {F : Nat → Prop} {w w0 w1 : World} {rb rp : Nat} {s : St} {L : Lay} {odd : List Nat} {lost : Bool}
theorem RSF.c0 (h : RSF w rb rp s L odd lost F) : w.cell? ⟨rb, 0, none⟩ = some (.pointer (some ⟨rp, 0, none⟩)) ∧ w.cell? ⟨rb, 3, none⟩ = some (.bool lost) := by
  obtain ⟨Fp, vo, g, h1, h2, h3, h4⟩ := h
  exact ⟨h2.cells.1, h2.cells.2.2.2⟩
theorem RSg.c0 (h : RSg F w w1 rb rp s L odd lost) : w1.cell? ⟨rb, 0, none⟩ = some (.pointer (some ⟨rp, 0, none⟩)) ∧ w1.cell? ⟨rb, 3, none⟩ = some (.bool lost) := by
  obtain ⟨F1, h1, h2, h3⟩ := h; exact h1.c0
theorem RSF.gone (h : RSF w rb rp s L odd lost F) : w.cell? ⟨rp, 2, none⟩ = some (.bool s.gone) := by
  obtain ⟨Fp, vo, g, ⟨vi, vw, h1, -⟩, h2, h3, h4⟩ := h
  obtain ⟨-, -, c2, -⟩ := h1.cells
  exact c2
theorem rsg_write (h : RSg F w0 w1 rb rp s L odd lost) (hg : Good s) (hn : s.wait.length ≤ 900) (hc : s.n ≤ 1000000) (i : Int) (t : ByteArray) (ht : t.size ≤ 9223372036854775807) :
    Calls Tryz.prog 111 #[.pointer (some ⟨rp, 0, none⟩), .int .i64 i, .string t] w1 fun e w2 => e = .returned (.int .i64 (writeE s i t)) ∧ RSg F w0 w2 rb rp (writeS s i t) L odd lost := by
  obtain ⟨F1, h1, h2⟩ := h.go
  obtain ⟨Fp, hP, hk⟩ := h1.pl
  exact (rwrite_any rp s Fp i t w1 hP hg hn hc ht).mono fun e w' ⟨he, hg'⟩ => ⟨he, h2 _ _ _ _ _ (hk _ _ hg')⟩
theorem rsg_sync (h : RSg F w0 w1 rb rp s L odd lost) (hg : Good s) (hc : s.n ≤ 1000000) :
    Calls Tryz.prog 112 #[.pointer (some ⟨rp, 0, none⟩)] w1 fun e w2 => e = .returned (.int .i64 (syncE s)) ∧ RSg F w0 w2 rb rp (syncS s) L odd lost := by
  obtain ⟨F1, h1, h2⟩ := h.go
  obtain ⟨Fp, hP, hk⟩ := h1.pl
  exact (rsync_any rp s Fp w1 hP hg hc).mono fun e w' ⟨he, hg'⟩ => ⟨he, h2 _ _ _ _ _ (hk _ _ hg')⟩
/-- lay, at a shelf beside other things. -/
theorem rsg_lay (h : RSg F w0 w1 rb rp s L odd lost) {i : Nat} (hi : i < L.length) {b : Bk} (hb : refE b 1 = 0) :
    Calls Tryz.prog 98 #[.pointer (some ⟨rb, 0, none⟩), .int .i64 i, b.val] w1 fun e w2 => e = .returned (.tuple #[]) ∧ RSg F w0 w2 rb rp s (layL L i b) odd lost := by
  obtain ⟨F1, h1, h2⟩ := h.go
  obtain ⟨vo, g, hS, hk⟩ := h1.own
  exact (rlay_row hS hi hb).mono fun e w' ⟨he, k1, k2⟩ => ⟨he, h2 _ _ _ _ _ (hk _ vo g _ _ _ k1 k2 (.inl rfl) (fun k hk => .inl hk))⟩
theorem rsf_at (h : RSF w rb rp s L odd lost F) (id : Int) :
    Calls Tryz.prog 42 #[.pointer (some ⟨rb, 0, none⟩), .int .i64 id] w fun e w' => e = .returned (.int .i64 (atI L id)) ∧ w = w' := by
  obtain ⟨vo, g, hS, hk⟩ := h.own
  exact rat_row hS id
theorem RSF.lays (h : RSF w rb rp s L odd lost F) : ∃ g, w.cell? ⟨rb, 1, none⟩ = some (.slice (some ⟨g, 0, none⟩) L.length L.length) ∧ ∀ i, i < L.length → w.cell? ⟨g, i * 3, none⟩ = some (.int .i64 (bkA L i).id) ∧ w.cell? ⟨g, i * 3 + 1, none⟩ = some (.int .i64 (bkA L i).ver) ∧ w.cell? ⟨g, i * 3 + 2, none⟩ = some (.string (bkA L i).data) := by
  obtain ⟨Fp, vo, g, h1, h2, h3, h4⟩ := h
  exact ⟨g, h2.cells.2.1, fun i hi => h2.sec hi⟩
theorem RSg.sf (h : RSg F w w1 rb rp s L odd lost) : ∃ F1, RSF w1 rb rp s L odd lost F1 := by obtain ⟨F1, h1, -⟩ := h; exact ⟨F1, h1⟩
/-- A Put or Drop has failed. -/
theorem RSg.setLost (h : RSg F w0 w1 rb rp s L odd lost) : RSg F w0 (w1.setCell ⟨rb, 3, none⟩ (.bool true)) rb rp s L odd true ∧ w1.frozen? ⟨rb, 3, none⟩ = false := by
  obtain ⟨F1, h1, h2⟩ := h.go
  obtain ⟨vo, g, hS, hk⟩ := h1.own
  exact ⟨h2 _ _ _ _ _ (hk _ vo g _ _ _ hS.setLost ((Keeps.refl _ w1).set (b := rb) (o := 3) (.inl (.inl rfl)) (.bool true)) (.inl rfl) (fun k hk => .inl hk)), hS.row.frozen 3⟩
end
set_option maxRecDepth 100000 in
set_option maxHeartbeats 4000000 in
theorem rput1_any {F : Nat → Prop} {w : World} {rb rp : Nat} {s : St} {L : Lay} {odd : List Nat} {lost : Bool} {n k : Nat} (h : RSF w rb rp s L odd lost F) (hR : Rest s n k) (hk : k ≤ 900000) {b : Bk} (hb : refE b 1 = 0) (i : Nat) :
    Calls Tryz.prog 107 #[.pointer (some ⟨rb, 0, none⟩), .int .i64 (i : Int), b.val] w fun e w' => e = .returned (.int .i64 (wrE s i b)) ∧ RSg F w w' rb rp (wrS s i b) L odd lost := by
  have hb0 : Below w.heap.size w (w.alloc (.cells b.cells 34)) := (Below.refl _ _).alloc (Nat.le_refl _) _
  have hz := (refE_zero.1 hb).2
  have h0 := refE_mark hb
  have HFz := Lib.hid (fun (e : F w.heap.size) => Nat.lt_irrefl _ (h.lt _ e))
  have HB := Lib.hid hb0
  have A0 := Lib.hid (AB.fresh w b)
  have S0 := Lib.hid (RSg.start (h.below hb0))
  have g0 := hR.good
  have hw0 := hR.wait
  have hn0 := hR.few
  have hrs0 := recB_size hz 0
  have hrs1 := recB_size hz 1
  have r0 := recV_yes h0
  have r1 := recV_yes hb
  obtain ⟨q0, hq0⟩ : ∃ x, recB b 0 = x := ⟨_, rfl⟩
  obtain ⟨q1, hq1⟩ : ∃ x, recB b 1 = x := ⟨_, rfl⟩
  have RA := Lib.hid (fun w => h0 ▸ r0 ▸ rrec_any b 0 w)
  have RB := Lib.hid (fun w => hb ▸ r1 ▸ rrec_any b 1 w)
  have Wa := @wr_a s i b
  have Wb := @wr_b s i b
  have Wc := @wr_c s i b
  rw [hq0] at RA Wa Wb Wc hrs0
  rw [hq1] at RB Wc hrs1
  have hwl : s.wait.length = 0 := by rw [hw0]; rfl
  clear hb0 h r0 r1 hq0 hq1 hw0 hb h0 hR
  -- the four calls
  have g1 := g0.write i q0
  have n1 := write_n s i q0
  have l1 := write_wait s i q0
  generalize hs1 : writeS s i q0 = s1 at g1 n1 l1 Wa Wb Wc
  generalize he1 : writeE s i q0 = e1 at Wa Wb Wc
  have g2 := g1.sync
  have n2 := sync_n s1
  have l2 := sync_wait s1
  generalize hs2 : syncS s1 = s2 at g2 n2 l2 Wb Wc
  generalize he2 : syncE s1 = e2 at Wb Wc
  have W1 := @wr1_no s2 i q1
  have W2 := @wr1_yes s2 i q1
  have g3 := g2.write i q1
  have n3 := write_n s2 i q1
  have l3 := write_wait s2 i q1
  generalize hs3 : writeS s2 i q1 = s3 at g3 n3 l3 W1 W2
  generalize he3 : writeE s2 i q1 = e3 at W1 W2
  generalize hs4 : syncS s3 = s4 at W2
  generalize he4 : syncE s3 = e4 at W2
  have P1 := Lib.hid (fun w1 (S : RSg F (w.alloc (.cells b.cells 34)) w1 rb rp s L odd lost) => hs1 ▸ he1 ▸ rsg_write S g0 (by omega) (by omega) i q0 (by omega))
  have P2 := Lib.hid (fun w1 (S : RSg F (w.alloc (.cells b.cells 34)) w1 rb rp s1 L odd lost) => hs2 ▸ he2 ▸ rsg_sync S g1 (by omega))
  have P3 := Lib.hid (fun w1 (S : RSg F (w.alloc (.cells b.cells 34)) w1 rb rp s2 L odd lost) => hs3 ▸ he3 ▸ rsg_write S g2 (by omega) (by omega) i q1 (by omega))
  have P4 := Lib.hid (fun w1 (S : RSg F (w.alloc (.cells b.cells 34)) w1 rb rp s3 L odd lost) => hs4 ▸ he4 ▸ rsg_sync S g3 (by omega))
  clear hs1 he1 hs2 he2 hs3 he3 hs4 he4 g0 g1 g2 g3 n1 n2 n3 l1 l2 l3 hwl hn0
  obtain ⟨wE, hwE⟩ : ∃ x, wrE s i b = x := ⟨_, rfl⟩
  obtain ⟨wS, hwS⟩ : ∃ x, wrS s i b = x := ⟨_, rfl⟩
  rw [hwE, hwS] at Wa Wb Wc
  rw [hwE, hwS]
  have WA := Lib.hid Wa
  have WB := Lib.hid Wb
  have WC := Lib.hid Wc
  have WD := Lib.hid W1
  have WE := Lib.hid W2
  clear hwE hwS Wa Wb Wc W1 W2
  go_enter Tryz.func107, Tryz.ntmps107
  go_wp2_with fail
  generalize hW0 : w.alloc (.cells #[.int .i64 b.id, .int .i64 b.ver, .string b.data] 34) = w0 at HB A0 S0 P1 P2 P3 P4 ⊢
  refine wp_loop_rounds 3 ?_
  rw [rounds_succ]
  obtain ⟨d0, d1, d2⟩ := A0.out.all
  go_wp2_with fail
  go_at_call 106
  refine (RA.out _).mono ?_
  rintro e w1 ⟨rfl, k2⟩
  have S1 := Lib.hid (S0.out.below k2)
  have A1 := Lib.hid (A0.out.below k2)
  clear k2 d0 d1 d2
  obtain ⟨c0, -⟩ := S1.out.c0
  go_wp2_with fail
  go_at_call 111
  refine (P1.out _ S1.out).mono ?_
  rintro e w2 ⟨rfl, k2⟩
  have S2 := Lib.hid k2
  clear k2 c0
  by_cases h1 : e1 = 0
  · obtain ⟨c0, -⟩ := S2.out.c0
    have WB1 := Lib.hid (WB.out h1)
    have WC1 := Lib.hid (WC.out h1)
    subst h1
    go_wp2_with fail
    go_at_call 112
    refine (P2.out _ S2.out).mono ?_
    rintro e w3 ⟨rfl, k2⟩
    have S3 := Lib.hid k2
    clear k2 c0
    by_cases h2 : e2 = 0
    · have WC2 := Lib.hid (WC1.out h2)
      subst h2
      have A3 := Lib.hid (S3.out.ab A0.out HFz.out)
      obtain ⟨d0, d1, d2⟩ := A3.out.all
      go_wp2_with fail
      rw [rounds_succ]
      obtain ⟨c0, -⟩ := S3.out.c0
      go_wp2_with fail
      go_at_call 106
      refine (RB.out _).mono ?_
      rintro e w4 ⟨rfl, k2⟩
      have S4 := Lib.hid (S3.out.below k2)
      have A4 := Lib.hid (A3.out.below k2)
      clear k2 d0 d1 d2 c0
      obtain ⟨c0, -⟩ := S4.out.c0
      go_wp2_with fail
      go_at_call 111
      refine (P3.out _ S4.out).mono ?_
      rintro e w5 ⟨rfl, k2⟩
      have S5 := Lib.hid k2
      clear k2 c0
      by_cases h3 : e3 = 0
      · obtain ⟨c0, -⟩ := S5.out.c0
        have WE1 := Lib.hid (WE.out h3)
        subst h3
        go_wp2_with fail
        go_at_call 112
        refine (P4.out _ S5.out).mono ?_
        rintro e w6 ⟨rfl, k2⟩
        have S6 := Lib.hid k2
        clear k2 c0
        obtain ⟨z1, z2⟩ := WE1.out
        obtain ⟨z3, z4⟩ := WC2.out
        rw [z1] at z3
        rw [z2] at z4
        subst z3
        subst z4
        by_cases h4 : wE = 0
        · subst h4
          have A6 := Lib.hid (S6.out.ab A0.out HFz.out)
          obtain ⟨d0, d1, d2⟩ := A6.out.all
          go_wp2_with fail
          rw [rounds_succ]
          go_wp2
          go_ret
          exact ⟨rfl, RSg.ahead HB.out S6.out⟩
        · have hbad2 : (wE == 0) = false := by simpa using h4
          go_wp2
          go_ret
          exact ⟨rfl, RSg.ahead HB.out S6.out⟩
      · obtain ⟨z1, z2⟩ := WD.out h3
        obtain ⟨z3, z4⟩ := WC2.out
        rw [z1] at z3
        rw [z2] at z4
        subst z3
        subst z4
        have hbad2 : (wE == 0) = false := by simpa using h3
        go_wp2
        go_ret
        exact ⟨rfl, RSg.ahead HB.out S5.out⟩
    · obtain ⟨rfl, rfl⟩ := WB1.out h2
      have hbad2 : (wE == 0) = false := by simpa using h2
      go_wp2
      go_ret
      exact ⟨rfl, RSg.ahead HB.out S3.out⟩
  · obtain ⟨rfl, rfl⟩ := WA.out h1
    have hbad2 : (wE == 0) = false := by simpa using h1
    go_wp2
    go_ret
    exact ⟨rfl, RSg.ahead HB.out S2.out⟩
end Go.Proofs.YtmmpknfkncgjpaaGreatDoor
