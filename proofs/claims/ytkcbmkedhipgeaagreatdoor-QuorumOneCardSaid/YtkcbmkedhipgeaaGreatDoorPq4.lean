/-
  accept and the closures of Propose (package quorum), by contracts.
-/
import Derived.Test.YtkcbmkedhipgeaaGreatDoorPq3
import Derived.Test.YtkcbmkedhipgeaaGreatDoorLoad10
import Derived.Test.YtkcbmkedhipgeaaGreatDoorSaving
namespace Go.Proofs.YtkcbmkedhipgeaaGreatDoor
open Go.RowKit Go.ChangeMaps

theorem PA.below {w w' : World} {a : Nat} {A : Acc} (h : PA w a A) (hb : Below w.heap.size w w') : PA w' a A := ⟨h.pc.below hb, h.good⟩
theorem PA.fbB {w w' : World} {a b : Nat} {A B : Acc} (h : PA w a A) (hb : PA w b B) (hne : a ≠ b) (hf : Fb b w w') : PA w' a A := by
  obtain ⟨g, hrow⟩ := hb.pc.row
  exact ⟨h.pc.fb hrow (by decide) hne hf, h.good⟩
/-- An acceptor of the group has turned. -/
theorem PG.acc {w w' : World} {g : Nat} {S : Gp} {P : Pl} {i : Nat} {A' : Acc} (h : PG w g S P) (hi : i < S.n) (hu : (S.nd i).up = true) (hf : Fb (P.ac i) w w') (hA : PA w' (P.ac i) A') : PG w' g (S.set i ((S.nd i).setA A')) P ∧ PT S.n P P w w' := by
  have hPA := (h.nd i hi).acc hu
  obtain ⟨csA, hcsA⟩ := hPA.ty
  have hk : ∀ (k : Nat) (cs : Array Value) (t : TypeId), t ≠ 103 → w.heap[k]? = some (Obj.cells cs t (0, 0)) → w'.heap[k]? = some (Obj.cells cs t (0, 0)) := fun k cs t ht hk =>
    (hf.block k (lt_of hk) (fun e => by subst e; rw [hcsA] at hk; injection hk with hk; injection hk with _ h2; exact ht h2.symm) (by simp)).trans hk
  have hm : ∀ (b : Nat) (es : Array MapEntry) (cl : Nat), w.heap[b]? = some (Obj.map es cl) → w'.heap[b]? = w.heap[b]? := fun b es cl hb =>
    hf.block b (lt_of hb) (fun e => by subst e; rw [hcsA] at hb; cases hb) (by simp)
  obtain ⟨cs, h1, h2⟩ := h.row
  refine ⟨⟨hk _ _ _ (by decide) h.grp, ⟨cs, hk _ _ _ (by decide) h1, h2⟩, fun j hj => ?_, h.ndsNe, fun a b ha hb hab u1 u2 => ?_, h.lrNe, h.tab.of_maps hm⟩, Chg.of_fb hf (fun o ho => ?_), fun _ h => .inl h, rfl, rfl, rfl, rfl, rfl⟩
  · have hn := h.nd j hj
    have hlog : OwnsS w' P.B (P.lr j) (S.nd j).log := hn.log.kept fun b hb => by
      obtain ⟨cur, h3⟩ := hn.log.ty hb
      rw [h3]; exact hk _ _ _ (by decide) h3
    by_cases e : j = i
    · subst e
      have hx : (S.set j ((S.nd j).setA A')).nd j = (S.nd j).setA A' := at1_same _ _ _
      rw [hx]
      exact ⟨hk _ _ _ (by decide) hn.cs, fun _ => hA, fun hd => (by have : (S.nd j).up = false := hd; rw [hu] at this; cases this), hA.good, hlog, hn.lo, hn.loA⟩
    · have hx : (S.set i ((S.nd i).setA A')).nd j = S.nd j := at1_other _ _ e
      rw [hx]
      exact ⟨hk _ _ _ (by decide) hn.cs, fun huj => (hn.acc huj).fbB hPA (h.acNe j i hj hi e huj hu) hf, hn.sav, hn.good, hlog, hn.lo, hn.loA⟩
  · have up : ∀ j, ((S.set i ((S.nd i).setA A')).nd j).up = (S.nd j).up := fun j => by
      show (at1 S.nd i ((S.nd i).setA A') j).up = _
      unfold at1
      split
      · rename_i e; subst e; rfl
      · rfl
    rw [up] at u1 u2
    exact h.acNe a b ha hb hab u1 u2
  · rw [hcsA] at ho
    injection ho with ho
    rw [← ho]
    exact ⟨(h.nd i hi).loA hu, .inl (by simp [isTy])⟩
theorem PG.congr {w : World} {g : Nat} {S S' : Gp} {P : Pl} (h : PG w g S P) (hn : S'.n = S.n) (hd : S'.nd = S.nd) (ht : S'.tab = S.tab) : PG w g S' P := by
  obtain ⟨n, nd, all, tab⟩ := S
  obtain ⟨n', nd', all', tab'⟩ := S'
  simp only at hn hd ht
  subst hn hd ht
  exact ⟨h.grp, h.row, h.nd, h.ndsNe, h.acNe, h.lrNe, h.tab⟩
theorem wrongE_okV {v : V} (h : wrongE v = 0) : okV v := by
  obtain ⟨h1, h2, h3, h4⟩ := wrongE_zero.1 h
  refine ⟨?_, ?_, by unfold maxLen; omega⟩
  · rw [i64_iff]; omega
  · rw [i64_iff]; obtain ⟨a, b⟩ := h3; omega

set_option maxRecDepth 100000 in
set_option maxHeartbeats 2000000 in
theorem accept11_any {w : World} {g : Nat} {S : Gp} {P : Pl} (h : PG w g S P) (hT : TabOk S) (i : Nat) (hi : i < S.n) (hu : (S.nd i).up = true) (v : V) :
    Calls Tryz.prog 44 #[.pointer (some ⟨g, 0, none⟩), .int .i64 (i : Int), v.val] w fun e w' => e = .returned (.int .i64 (accE (S.nd i).A v)) ∧ ∃ P', PG w' g (accS S i v) P' ∧ PT S.n P P' w w' := by
  have hba : Below w.heap.size w (w.alloc (.cells v.cells 75)) := below_row0 w _
  have hbd : Below w.heap.size w (w.alloc (.cells v.cells 75)).drew := hba.drew
  have hP1 := h.below hbd
  have hV1 : AV 75 (w.alloc (.cells v.cells 75)).drew w.heap.size v := (AV.fresh 75 w v).of_block rfl
  have hN := hP1.nd i hi
  have c0 := hP1.c0
  have c1 := hP1.nodeAt hi
  have c2 := hN.c0
  rw [if_pos hu] at c2
  obtain ⟨d0, d1, d2⟩ := hV1.all
  have hA := hN.acc hu
  have HA := Lib.hid (accept_any (P.ac i) v (S.nd i).A _ hA)
  have hne : P.ac i ≠ w.heap.size := fun e => by
    obtain ⟨cs, hcs⟩ := hA.ty
    have hV1' : (w.alloc (.cells v.cells 75)).drew.heap[w.heap.size]? = _ := hV1
    rw [e, hV1'] at hcs
    injection hcs with hcs
    injection hcs with _ h2
    exact absurd h2 (by decide)
  have HK := Lib.hid (fun w' (k1 : PA w' (P.ac i) ((S.nd i).A.accept v)) (k2 : Fb (P.ac i) (w.alloc (.cells v.cells 75)).drew w') => hP1.acc hi hu k2 k1)
  obtain ⟨csA, hcsA⟩ := hA.ty
  obtain ⟨csN, hrN, -⟩ := hP1.row
  have hneT : ∀ (k : Nat) (cs : Array Value) (t : TypeId), (w.alloc (.cells v.cells 75)).drew.heap[k]? = some (Obj.cells cs t (0, 0)) → t ≠ 103 → k ≠ P.ac i := fun k cs t hk ht e => by
    subst e
    rw [hcsA] at hk
    injection hk with hk
    injection hk with _ h2
    exact ht h2.symm
  have HC := Lib.hid (fun w' (k2 : Fb (P.ac i) (w.alloc (.cells v.cells 75)).drew w') => And.intro (k2.cell c0 (hneT _ _ _ hP1.grp (by decide))) (And.intro (k2.cell c1 (hneT _ _ _ hrN (by decide))) (k2.cell c2 (hneT _ _ _ hN.cs (by decide)))))
  have HV := Lib.hid (fun w' (k2 : Fb (P.ac i) (w.alloc (.cells v.cells 75)).drew w') => show AV 75 w' w.heap.size v from hV1.of_block (k2.block _ hV1.lt (Ne.symm hne) (by simp)))
  have HB := Lib.hid hbd
  have Hi := Lib.hid hi
  have HT := Lib.hid (hT.same (S' := S.set i ((S.nd i).setA ((S.nd i).A.accept v))) rfl rfl)
  have hi0 : 0 ≤ (i : Int) := by omega
  have hin : (i : Int) < (S.n : Int) := by omega
  have hw := @accE_zero (S.nd i).A v
  obtain ⟨vs, vb, vx⟩ := v
  clear h hP1 hV1 hN hA hba hbd hT hne hi hneT hcsA hrN
  simp only at d0 d1 d2
  go_enter Tryz.func44, Tryz.ntmps44
  go_wp2_with fail
  go_region_held3 (fun w' => w'.cell? ⟨g, 0, none⟩ = some (.slice (some ⟨P.nb, 0, none⟩) S.n P.cap) ∧ w'.cell? ⟨P.nb, i, none⟩ = some (.pointer (some ⟨P.nds i, 0, none⟩)) ∧ w'.cell? ⟨P.nds i, 0, none⟩ = some (.pointer (some ⟨P.ac i, 0, none⟩)) ∧ w'.cell? ⟨w.heap.size, 0, none⟩ = some (.int .i64 vs) ∧ w'.cell? ⟨w.heap.size, 1, none⟩ = some (.int .i64 vb) ∧ w'.cell? ⟨w.heap.size, 2, none⟩ = some (.string vx))
    (first | exact ⟨c0, c1, c2, d0, d1, d2⟩ | exact ⟨e0, e1, e2, f0, f1, f2⟩ | fail)
    (first
      | (go_at_call 61; (with_reducible refine HA.out.mono ?_); rintro e w2 ⟨rfl, k1, k2⟩; obtain ⟨q1, q2⟩ := HK.out w2 k1 k2; obtain ⟨e0, e1, e2⟩ := HC.out w2 k2; obtain ⟨f0, f1, f2⟩ := (HV.out w2 k2).all; have K1 := Lib.hid q1; have K2 := Lib.hid q2; clear k1 k2 q1 q2)
      | fail)
  clear c0 c1 c2 d0 d1 d2 e0 e1 e2 HC HV HA HK
  by_cases hE : accE (S.nd i).A ⟨vs, vb, vx⟩ = 0
  · have hok := wrongE_okV (hw.1 hE).1
    have HN := Lib.hid (note_any K1.out HT.out i Hi.out ⟨vs, vb, vx⟩ hok)
    have HS := Lib.hid (show accS S i ⟨vs, vb, vx⟩ = { S with nd := at1 S.nd i ((S.nd i).setA ((S.nd i).A.accept ⟨vs, vb, vx⟩)), all := S.all ++ [(i, ⟨vs, vb, vx⟩)], tab := fun s => if s = vs then noteR S.n i ⟨vs, vb, vx⟩ (S.tab s) else S.tab s } from by unfold accS; rw [if_pos hE])
    have hEb : (accE (S.nd i).A ⟨vs, vb, vx⟩ == 0) = true := by rw [hE]; rfl
    have HE := Lib.hid hE
    clear hw hok
    go_wp2_with (go_at_call 62; (with_reducible refine HN.out.mono ?_); rintro e w3 ⟨rfl, k1, O, c, k2⟩; have K3 := Lib.hid k1; have K4 := Lib.hid k2; clear k1 k2)
    go_ret
    refine ⟨by rw [HE.out]; rfl, { P with O := O, c := c }, ?_, ?_⟩
    · rw [HS.out]
      exact (K1.out.noted K3.out K4.out).congr rfl rfl rfl
    · exact PT.trans (PT.of_below HB.out) (PT.trans K2.out ⟨K3.out.mono (fun k o h => ⟨h.1, .inr (.inl h.2)⟩), fun _ h => .inl h, rfl, rfl, rfl, rfl, rfl⟩)
  · have HS := Lib.hid (show accS S i ⟨vs, vb, vx⟩ = S from by unfold accS; rw [if_neg hE])
    have hAA : (S.nd i).A.accept ⟨vs, vb, vx⟩ = (S.nd i).A := by unfold Acc.accept; rw [if_neg hE]
    have HSS := Lib.hid (show (S.set i ((S.nd i).setA ((S.nd i).A.accept ⟨vs, vb, vx⟩))).nd = S.nd from by
      rw [hAA]
      funext j
      show at1 S.nd i ((S.nd i).setA (S.nd i).A) j = S.nd j
      unfold at1
      split
      · rename_i e; subst e; rfl
      · rfl)
    have hEb : (accE (S.nd i).A ⟨vs, vb, vx⟩ == 0) = false := by simpa using hE
    clear hw hAA
    go_wp2
    go_ret
    refine ⟨rfl, P, ?_, PT.trans (PT.of_below HB.out) K2.out⟩
    rw [HS.out]
    exact K1.out.congr rfl HSS.out.symm rfl
end Go.Proofs.YtkcbmkedhipgeaaGreatDoor
