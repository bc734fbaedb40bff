/-
  The closures of Propose, voteFor, refusal (package quorum), by contracts.
-/
import Derived.Test.YtkcbmkedhipgeaaGreatDoorRm
namespace Go.Proofs.YtkcbmkedhipgeaaGreatDoor
open Go.RowKit Go.ChangeMaps

/-- A box: a block of one cell. -/
def Bx (w : World) (b : Nat) (t : TypeId) (v : Value) : Prop := w.heap[b]? = some (.cells #[v] t (0, 0))
theorem Bx.lt {w : World} {b : Nat} {t : TypeId} {v : Value} (h : Bx w b t v) : b < w.heap.size := lt_of h
theorem Bx.cell {w : World} {b : Nat} {t : TypeId} {v : Value} (h : Bx w b t v) : w.cell? ⟨b, 0, none⟩ = some v := by rw [cell_at h]; rfl
theorem Bx.free {w : World} {b : Nat} {t : TypeId} {v : Value} (h : Bx w b t v) : w.frozen? ⟨b, 0, none⟩ = false := free_at h 0
theorem Bx.below {w w' : World} {b : Nat} {t : TypeId} {v : Value} (h : Bx w b t v) (hb : Below w.heap.size w w') : Bx w' b t v := (hb.block b h.lt).trans h
theorem Bx.set {w : World} {b : Nat} {t : TypeId} {v : Value} (h : Bx w b t v) (u : Value) : Bx (w.setCell ⟨b, 0, none⟩ u) b t u := by
  unfold Bx; rw [heap_setCell h]; rfl
theorem Bx.fresh (w : World) (t : TypeId) (v : Value) : Bx (w.alloc (.cells #[v] t)) w.heap.size t v := heap_alloc_new w _

set_option maxRecDepth 100000 in
set_option maxHeartbeats 2000000 in
/-- What is put in the first round: node i is asked to prepare. -/
theorem put1_any {w : World} {g bG bB bS : Nat} {S : Gp} {P : Pl} {b sl : Int} (h : PG w g S P) (hG : Bx w bG 25 (.pointer (some ⟨g, 0, none⟩))) (hB : Bx w bB 3 (.int .i64 b)) (hS : Bx w bS 3 (.int .i64 sl)) (i : Nat) (hi : i < S.n) (hu : (S.nd i).up = true) :
    Calls Tryz.prog 40 #[.int .i64 (i : Int), .pointer (some ⟨bG, 0, none⟩), .pointer (some ⟨bB, 0, none⟩), .pointer (some ⟨bS, 0, none⟩)] w fun e w' => ∃ v, e = .returned (.tuple #[v, .int .i64 (prepE (S.nd i).A b)]) ∧ OwnsV 75 w' 0 v (prepL (S.nd i).A b sl) ∧ PG w' g (S.set i ((S.nd i).setA ((S.nd i).A.prep b))) P ∧ PT S.n P P w w' := by
  have hbd : Below w.heap.size w w.drew := (Below.refl _ _).drew
  have hP1 := h.below hbd
  have hN := hP1.nd i hi
  have c0 := hP1.c0
  have c1 := hP1.nodeAt hi
  have c2 := hN.c0
  rw [if_pos hu] at c2
  have k0 := (hG.below hbd).cell
  have k1 := (hB.below hbd).cell
  have k2 := (hS.below hbd).cell
  have hA := hN.acc hu
  have HA := Lib.hid (prepare_any (P.ac i) b sl (S.nd i).A _ hA)
  obtain ⟨csA, hcsA⟩ := hA.ty
  obtain ⟨csN, hrN, -⟩ := hP1.row
  have hneT : ∀ (k : Nat) (cs : Array Value) (t : TypeId), w.drew.heap[k]? = some (Obj.cells cs t (0, 0)) → t ≠ 103 → k ≠ P.ac i := fun k cs t hk ht e => by
    subst e
    rw [hcsA] at hk
    injection hk with hk
    injection hk with _ h2
    exact ht h2.symm
  have HC := Lib.hid (fun w' (k3 : Fb (P.ac i) w.drew w') => And.intro (k3.cell c0 (hneT _ _ _ hP1.grp (by decide))) (And.intro (k3.cell c1 (hneT _ _ _ hrN (by decide))) (And.intro (k3.cell c2 (hneT _ _ _ hN.cs (by decide))) (And.intro (k3.cell k0 (hneT _ _ _ (hG.below hbd) (by decide))) (And.intro (k3.cell k1 (hneT _ _ _ (hB.below hbd) (by decide))) (k3.cell k2 (hneT _ _ _ (hS.below hbd) (by decide))))))))
  have HK := Lib.hid (fun w' (j1 : PA w' (P.ac i) ((S.nd i).A.prep b)) (j2 : Fb (P.ac i) w.drew w') => hP1.acc hi hu j2 j1)
  have HB := Lib.hid hbd
  have hi0 : 0 ≤ (i : Int) := by omega
  have hin : (i : Int) < (S.n : Int) := by omega
  clear h hP1 hN hA hbd hi hneT hcsA hrN hG hB hS
  go_enter Tryz.func40, Tryz.ntmps40
  go_wp2_with fail
  go_region_held3 (fun w' => w'.cell? ⟨g, 0, none⟩ = some (.slice (some ⟨P.nb, 0, none⟩) S.n P.cap) ∧ w'.cell? ⟨P.nb, i, none⟩ = some (.pointer (some ⟨P.nds i, 0, none⟩)) ∧ w'.cell? ⟨P.nds i, 0, none⟩ = some (.pointer (some ⟨P.ac i, 0, none⟩)) ∧ w'.cell? ⟨bG, 0, none⟩ = some (.pointer (some ⟨g, 0, none⟩)) ∧ w'.cell? ⟨bB, 0, none⟩ = some (.int .i64 b) ∧ w'.cell? ⟨bS, 0, none⟩ = some (.int .i64 sl))
    (first | exact ⟨c0, c1, c2, k0, k1, k2⟩ | exact ⟨e0, e1, e2, f0, f1, f2⟩ | fail)
    (first
      | (go_at_call 41; (with_reducible refine HA.out.mono ?_); rintro e w2 ⟨v, rfl, j0, j1, j2⟩; obtain ⟨q1, q2⟩ := HK.out w2 j1 j2; obtain ⟨e0, e1, e2, f0, f1, f2⟩ := HC.out w2 j2; have K0 := Lib.hid j0; have K1 := Lib.hid q1; have K2 := Lib.hid q2; clear j0 j1 j2 q1 q2)
      | fail)
  go_wp2
  go_ret2
  exact ⟨_, rfl, K0.out.mono (Nat.zero_le _), K1.out, PT.trans (PT.of_below HB.out) K2.out⟩

set_option maxRecDepth 100000 in
set_option maxHeartbeats 2000000 in
/-- What is put in the second round: node i is asked to accept. -/
theorem put2_any {w : World} {g bG bV : Nat} {S : Gp} {P : Pl} {v : V} (h : PG w g S P) (hT : TabOk S) (hG : Bx w bG 25 (.pointer (some ⟨g, 0, none⟩))) (hV : AV 75 w bV v) (i : Nat) (hi : i < S.n) (hu : (S.nd i).up = true) :
    Calls Tryz.prog 43 #[.int .i64 (i : Int), .pointer (some ⟨bG, 0, none⟩), .pointer (some ⟨bV, 0, none⟩)] w fun e w' => ∃ P', e = .returned (.tuple #[.slice none 0 0, .int .i64 (accE (S.nd i).A v)]) ∧ PG w' g (accS S i v) P' ∧ PT S.n P P' w w' := by
  have HA := Lib.hid (accept11_any h hT i hi hu v)
  have k0 := hG.cell
  obtain ⟨d0, d1, d2⟩ := hV.all
  clear h hT hG hV
  obtain ⟨vs, vb, vx⟩ := v
  simp only at d0 d1 d2
  go_enter Tryz.func43, Tryz.ntmps43
  go_wp2_with (go_at_call 44; (with_reducible refine HA.out.mono ?_); rintro e w2 ⟨rfl, P', q1, q2⟩; have K1 := Lib.hid q1; have K2 := Lib.hid q2; clear q1 q2)
  go_ret2
  exact ⟨_, rfl, K1.out, K2.out⟩
end Go.Proofs.YtkcbmkedhipgeaaGreatDoor
