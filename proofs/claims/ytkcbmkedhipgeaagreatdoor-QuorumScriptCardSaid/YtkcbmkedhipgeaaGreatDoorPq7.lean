/-
  Propose (package quorum), by a contract.
-/
import Derived.Test.YtkcbmkedhipgeaaGreatDoorAskB
import Derived.Test.YtkcbmkedhipgeaaGreatDoorPq6
namespace Go.Proofs.YtkcbmkedhipgeaaGreatDoor
open Go.RowKit Go.ChangeMaps

theorem refE_refU (S : Gp) (i : Int) (x : ByteArray) : refE S i x = if refU S i x ≠ 0 then refU S i x else numR (S.nd i.toNat).rd i := by
  unfold refE refU
  split
  · simp
  · split
    · simp
    · split
      · simp
      · split
        · simp
        · simp
theorem proE_ref {S : Gp} {i : Int} {x : ByteArray} {L : Nat} (h : refE S i x ≠ 0) : proE S i x L = (0, ⟨#[]⟩, refE S i x) ∧ proS S i x L = S := by
  unfold proE proS
  rw [if_pos h, if_pos h]; exact ⟨rfl, rfl⟩
theorem five (w : World) (a b c d e : Obj) : ((((((w.alloc a).alloc b).alloc c).alloc d).alloc e).heap[w.heap.size]? = some a ∧ (((((w.alloc a).alloc b).alloc c).alloc d).alloc e).heap[w.heap.size + 1]? = some b ∧ (((((w.alloc a).alloc b).alloc c).alloc d).alloc e).heap[w.heap.size + 1 + 1]? = some c) ∧
    (((((w.alloc a).alloc b).alloc c).alloc d).alloc e).heap[w.heap.size + 1 + 1 + 1]? = some d ∧ (((((w.alloc a).alloc b).alloc c).alloc d).alloc e).heap[w.heap.size + 1 + 1 + 1 + 1]? = some e := by
  have e1 : (w.alloc a).heap.size = w.heap.size + 1 := by simp
  have e2 : ((w.alloc a).alloc b).heap.size = w.heap.size + 1 + 1 := by simp
  have e3 : (((w.alloc a).alloc b).alloc c).heap.size = w.heap.size + 1 + 1 + 1 := by simp
  have e4 : ((((w.alloc a).alloc b).alloc c).alloc d).heap.size = w.heap.size + 1 + 1 + 1 + 1 := by simp
  obtain ⟨h1, h2, h3⟩ := three11 w a b c
  refine ⟨⟨?_, ?_, ?_⟩, ?_, ?_⟩
  · rw [heap_alloc_old _ _ (by omega), heap_alloc_old _ _ (by omega)]; exact h1
  · rw [heap_alloc_old _ _ (by omega), heap_alloc_old _ _ (by omega)]; exact h2
  · rw [heap_alloc_old _ _ (by omega), heap_alloc_old _ _ (by omega)]; exact h3
  · rw [heap_alloc_old _ _ (by omega), ← e3]; exact heap_alloc_new _ d
  · rw [← e4]; exact heap_alloc_new _ e

theorem told_len {S : Gp} {k L : Nat} (h : ∀ j, j < S.n → (S.nd j).A.Good) {l : List V} (hl : l ∈ (rnd1 S k L).told) : l.length ≤ 100000 := by
  unfold rnd1 at hl
  rw [(ask1_run S _ _ L S.n).2] at hl
  obtain ⟨j, h3, h4⟩ := List.mem_filterMap.1 hl
  split at h4
  · injection h4 with h4
    rw [← h4]
    have h1 := from_len (S.nd j).A.l (slotOf S k)
    have h2 := (h j (List.mem_range.1 h3)).len
    omega
  · cases h4
/-- A node's round rises. -/
theorem PG.raise {w : World} {g k : Nat} {S : Gp} {P : Pl} (h : PG w g S P) (hk : k < S.n) (r : Int) : PG (w.setCell ⟨P.nds k, 3, none⟩ (.int .i64 r)) g (S.setRd k r) P ∧ PT S.n P P w (w.setCell ⟨P.nds k, 3, none⟩ (.int .i64 r)) := by
  have hN := h.nd k hk
  have hc : Chg (fun b _ => b = P.nds k) w (w.setCell ⟨P.nds k, 3, none⟩ (.int .i64 r)) := Chg.of_fb (Fb.same.set 3 _) (fun _ _ => rfl)
  have hkeep : ∀ (b : Nat) (cs : Array Value) (t : TypeId), t ≠ 62 → w.heap[b]? = some (Obj.cells cs t (0, 0)) → (w.setCell ⟨P.nds k, 3, none⟩ (.int .i64 r)).heap[b]? = some (Obj.cells cs t (0, 0)) := fun b cs t ht hb => hc.keep hb fun e => by
    have e' : b = P.nds k := e
    rw [e', hN.cs] at hb
    injection hb with hb
    injection hb with _ h2
    exact ht h2.symm
  refine ⟨h.node hk (hc.mono fun _ _ h => .inl h) ⟨?_, fun hu => ?_, hN.sav, hN.good, hN.log.kept fun b hb => ?_, hN.lo, hN.loA⟩ ⟨rfl, rfl, rfl, rfl, rfl, rfl, rfl⟩ (fun _ _ => ⟨rfl, rfl, rfl⟩) (fun hu j hj e huj => h.acNe k j hk hj (Ne.symm e) hu huj) (fun b hb j hj e => h.lrNe k j hk hj (Ne.symm e) b hb),
    ⟨Chg.of_fb (Fb.same.set 3 _) (fun o ho => ?_), fun _ h => .inl h, rfl, rfl, rfl, rfl, rfl⟩⟩
  · exact heap_setCell hN.cs 3 _
  · refine (hN.acc hu).keptTy fun b cs t f hb ht => hc.keep hb fun e => ?_
    have e' : b = P.nds k := e
    rw [e', hN.cs] at hb
    injection hb with hb
    injection hb with _ h2
    rw [← h2] at ht
    exact absurd ht (by decide)
  · obtain ⟨cur, h3⟩ := hN.log.ty hb
    rw [h3]; exact hkeep _ _ _ (by decide) h3
  · rw [hN.cs] at ho
    injection ho with ho
    rw [← ho]
    exact ⟨hN.lo, .inl (by simp [isTy])⟩

/-- A node's log has grown. -/
theorem PG.logged {w w2 : World} {g k : Nat} {S : Gp} {P : Pl} {v : Value} {l : List ByteArray} (h : PG w g S P) (hk : k < S.n) (hgrow : w.grownBy w2 (P.lr k).ownBlock) (hown : OwnsS w2 P.B v l) (hat : ∀ b, v.ownBlock = some b → (P.lr k).ownBlock = some b ∨ w.heap.size ≤ b) :
    PG (w2.setCell ⟨P.nds k, 2, none⟩ v) g (S.set k { S.nd k with log := l }) { P with lr := at1 P.lr k v } ∧ PT S.n P { P with lr := at1 P.lr k v } w (w2.setCell ⟨P.nds k, 2, none⟩ v) := by
  have hN := h.nd k hk
  have hrowNe : ∀ (b : Nat) (cs : Array Value) (t : TypeId), t ≠ 9 → w.heap[b]? = some (Obj.cells cs t (0, 0)) → (P.lr k).ownBlock ≠ some b := fun b cs t ht hb e => by
    obtain ⟨cur, h3⟩ := hN.log.ty e
    rw [hb] at h3
    injection h3 with h3
    injection h3 with _ h4
    exact ht h4
  have hcs2 : w2.heap[P.nds k]? = some (.cells (nodeC P k (S.nd k)) 62 (0, 0)) := (hgrow.block _ (lt_of hN.cs) (fun e => hrowNe _ _ _ (by decide) hN.cs e.symm)).trans hN.cs
  have hc2 : Chg (fun b _ => b = P.nds k) w2 (w2.setCell ⟨P.nds k, 2, none⟩ v) := Chg.of_fb (Fb.same.set 2 _) (fun _ _ => rfl)
  have hc : Chg (fun b _ => b = P.nds k ∨ (P.lr k).ownBlock = some b) w (w2.setCell ⟨P.nds k, 2, none⟩ v) := ((Chg.of_grown hgrow).mono (fun b _ e => .inr e)).same (hc2.mono (fun b _ e => .inl e))
  have hlr : ∀ j, ({ P with lr := at1 P.lr k v } : Pl).lr j = if j = k then v else P.lr j := fun j => rfl
  refine ⟨h.node hk hc ⟨?_, fun hu => ?_, hN.sav, hN.good, ?_, hN.lo, hN.loA⟩ ⟨rfl, rfl, rfl, rfl, rfl, rfl, rfl⟩ (fun j hj => ⟨rfl, by rw [hlr, if_neg hj], rfl⟩) (fun hu j hj e huj => h.acNe k j hk hj (Ne.symm e) hu huj) (fun b hb j hj e => ?_), ⟨⟨hc.os, hc.tape, hc.output, hc.size, fun b o hb => ?_⟩, fun b hb => ?_, rfl, rfl, rfl, rfl, rfl⟩⟩
  · have := heap_setCell hcs2 2 v
    rw [this]
    unfold nodeC
    rw [hlr, if_pos rfl]; rfl
  · refine (hN.acc hu).keptTy fun b cs t f hb ht => hc.keep hb fun e => ?_
    have ht' : t = 103 ∨ t = 75 := by simpa using ht
    rcases e with e | e
    · rw [e, hN.cs] at hb
      injection hb with hb
      injection hb with _ h2
      rcases ht' with e5 | e5
      · rw [e5] at h2; exact absurd h2 (by decide)
      · rw [e5] at h2; exact absurd h2 (by decide)
    · obtain ⟨cur, h3⟩ := hN.log.ty e
      rw [h3] at hb
      injection hb with hb
      injection hb with _ h2
      rcases ht' with e5 | e5
      · rw [e5] at h2; exact absurd h2 (by decide)
      · rw [e5] at h2; exact absurd h2 (by decide)
  · rw [hlr, if_pos rfl]
    refine hown.chg hc2 (fun b hb cur f e => ?_)
    have e' : b = P.nds k := e
    obtain ⟨cur', h3⟩ := hown.ty hb
    rw [e', hcs2] at h3
    injection h3 with h3
    injection h3 with _ h4
    exact absurd h4 (by decide)
  · rw [hlr, if_pos rfl] at hb
    rcases hat b hb with e1 | e1
    · exact h.lrNe k j hk hj (Ne.symm e) b e1
    · intro e2
      have := ((h.nd j hj).log.lt e2).2
      omega
  · rcases hc.block b o hb with e | e
    · left
      rcases e with e | e
      · rw [e, hN.cs] at hb
        injection hb with hb
        rw [← hb]
        exact ⟨by rw [e]; exact hN.lo, .inl (by simp [isTy])⟩
      · exact ⟨(hN.log.lt e).1, .inr (.inr ⟨k, hk, e⟩)⟩
    · exact .inr e
  · obtain ⟨j, hj, hq⟩ := hb
    rw [hlr] at hq
    split at hq
    · rcases hat b hq with e1 | e1
      · exact .inl ⟨k, hk, e1⟩
      · exact .inr e1
    · exact .inl ⟨j, hj, hq⟩
theorem infoStr : (Tryz.prog.info? 9).map (fun i => (i.zero, i.size, i.bytes)) = some (some (.string ⟨#[]⟩), 1, 16) := by kernel_rfl

set_option maxRecDepth 100000 in
set_option maxHeartbeats 8000000 in
theorem propose_any {w : World} {g : Nat} {S : Gp} {P : Pl} (h : PG w g S P) (hI : Inv S (rds S)) (i : Int) (x : ByteArray) (L : Nat) (hL : L < 18446744073709551616) :
    Calls Tryz.prog 21 #[.pointer (some ⟨g, 0, none⟩), .int .i64 i, .string x, .int .u64 (L : Int)] w fun e w' => ∃ P', e = .returned (.tuple #[.int .i64 (proE S i x L).1, .string (proE S i x L).2.1, .int .i64 (proE S i x L).2.2]) ∧ PG w' g (proS S i x L) P' ∧ PT S.n P P' w w' := by
  have hmf : ∀ (fn : Fn) (first cap : Array Value) (w : World), (Instr.makeFunc fn first cap).run Tryz.prog w = .ok (.func fn first cap) w := fun _ _ _ _ => rfl
  have HP := Lib.hid h
  have hb1 : Below w.heap.size w (w.alloc (.cells #[.pointer (some ⟨g, 0, none⟩)] 25)) := below_row0 _ _
  have hP1 := h.below hb1
  have HRf := Lib.hid (refusal_any hP1 i x)
  by_cases hU : refU S i x = 0
  · have hnum := refE_refU S i x
    rw [if_neg (fun e => e hU)] at hnum
    have hh : S.has i = true := by
      unfold refU at hU
      cases hh : S.has i with
      | true => rfl
      | false => rw [hh] at hU; simp at hU
    obtain ⟨e1, e2⟩ := has_nat hh
    obtain ⟨hi0, hin⟩ := has_iff.1 hh
    rw [hU] at HRf
    generalize hk : i.toNat = k at *
    subst e1
    have c0 := hP1.c0
    have c1 := hP1.nodeAt e2
    have hb2 := hb1.alloc (by simp) (.cells #[.pointer (some ⟨P.nds k, 0, none⟩)] 58)
    have hP2 := h.below hb2
    have c3 := (hP2.nd k e2).c3
    have HN := Lib.hid (numb_any (S.nd k).rd (k : Int))
    by_cases hR : numR (S.nd k).rd (k : Int) = 0
    · have hE : refE S (k : Int) x = 0 := by rw [hnum]; exact hR
      obtain ⟨-, -, -, hup, hxs, hlog, -⟩ := refE_zero hE
      rw [hk] at hup hlog
      have hpe : proE S (k : Int) x L = if 2 * (rnd1 S k L).told.length ≤ S.n then (0, ⟨#[]⟩, 110) else if 2 * (rnd2 S k x L).told.length ≤ S.n then (0, ⟨#[]⟩, 110) else (slotOf S k, (voteOf S k x L).x, 0) := by
        unfold proE; rw [if_neg (fun e => e hE), hk]
      have hps : proS S (k : Int) x L = if 2 * (rnd1 S k L).told.length ≤ S.n then (rnd1 S k L).S.setRd k (nextR (balOf S k) (rnd1 S k L).hi) else if 2 * (rnd2 S k x L).told.length ≤ S.n then (rnd2 S k x L).S.setRd k (nextR (balOf S k) (max (rnd1 S k L).hi (rnd2 S k x L).hi))
          else ((rnd2 S k x L).S.push k (voteOf S k x L).x).setRd k (nextR (balOf S k) (max (rnd1 S k L).hi (rnd2 S k x L).hi)) := by
        unfold proS; rw [if_neg (fun e => e hE), hk]
      simp only [hR] at HN
      have hb3 := hb2.alloc (by simp; omega) (.cells #[.int .i64 (numV (S.nd k).rd (k : Int))] 3 (0, 0))
      have hb4 := hb3.alloc (by simp; omega) (.cells #[.int .i64 (numV (S.nd k).rd (k : Int))] 3 (0, 0))
      have hb5 := hb4.alloc (by simp; omega) (.cells #[.int .i64 (((S.nd k).log.length : Nat) : Int)] 3 (0, 0))
      have hP4 := h.below hb4
      have hP5 := h.below hb5
      have c4 := (hP4.nd k e2).c2
      obtain ⟨Al, cl, hlv, -⟩ := (hP4.nd k e2).log.form
      rw [hlv] at c4
      obtain ⟨⟨x1, x2, x3⟩, x4, x5⟩ := five w (.cells #[.pointer (some ⟨g, 0, none⟩)] 25 (0, 0)) (.cells #[.pointer (some ⟨P.nds k, 0, none⟩)] 58 (0, 0)) (.cells #[.int .i64 (numV (S.nd k).rd (k : Int))] 3 (0, 0)) (.cells #[.int .i64 (numV (S.nd k).rd (k : Int))] 3 (0, 0)) (.cells #[.int .i64 (((S.nd k).log.length : Nat) : Int)] 3 (0, 0))
      have HA := Lib.hid (askA_any (L := L) (Lq := L) hP5 hI.n5 x1 x3 x5 hL (fun _ => rfl) (fun _ => rfl))
      have HX1 := Lib.hid x1
      have HX2 := Lib.hid x2
      have HX3 := Lib.hid x3
      have HX4 := Lib.hid x4
      have HX5 := Lib.hid x5
      have HP5 := Lib.hid hP5
      have HB5 := Lib.hid hb5
      have HI := Lib.hid hI
      have HPE := Lib.hid hpe
      have HPS := Lib.hid hps
      have Hup := Lib.hid hup
      have HE2 := Lib.hid e2
      have hsz5 : (((((w.alloc (.cells #[.pointer (some ⟨g, 0, none⟩)] 25 (0, 0))).alloc (.cells #[.pointer (some ⟨P.nds k, 0, none⟩)] 58 (0, 0))).alloc (.cells #[.int .i64 (numV (S.nd k).rd (k : Int))] 3 (0, 0))).alloc (.cells #[.int .i64 (numV (S.nd k).rd (k : Int))] 3 (0, 0))).alloc (.cells #[.int .i64 (((S.nd k).log.length : Nat) : Int)] 3 (0, 0))).heap.size = w.heap.size + 5 := by simp
      have HSz := Lib.hid hsz5
      clear h hP1 hP2 hP4 hP5 hI hpe hps hE hnum hU hb1 hb2 hb3 hb4 hb5 hh hk x1 x2 x3 x4 x5 hlv hup e2 hsz5
      go_enter_defers Tryz.func21, Tryz.ntmps21
      go_wp2_with (first
        | (go_at_call 35; (with_reducible refine HRf.out.mono ?_); rintro e w2 ⟨rfl, rfl⟩)
        | (go_at_call 36; (with_reducible refine (HN.out _).mono ?_); rintro e w2 ⟨rfl, rfl⟩)
        | fail)
      go_at_call 39
      (with_reducible refine HA.out.mono ?_)
      rintro e w6 ⟨P1, tv, rfl, q1, q2, q3⟩
      clear HA HRf HN c0 c1 c3 c4
      generalize (((((w.alloc (.cells #[.pointer (some ⟨g, 0, none⟩)] 25 (0, 0))).alloc (.cells #[.pointer (some ⟨P.nds k, 0, none⟩)] 58 (0, 0))).alloc (.cells #[.int .i64 (numV (S.nd k).rd (k : Int))] 3 (0, 0))).alloc (.cells #[.int .i64 (numV (S.nd k).rd (k : Int))] 3 (0, 0))).alloc (.cells #[.int .i64 (((S.nd k).log.length : Nat) : Int)] 3 (0, 0))) = w5 at q1 q2 HX1 HX2 HX3 HX4 HX5 HP5 HB5 HSz
      have hg : rnd1 S k L = goes (ask1 (numV (S.nd k).rd (k : Int)) (((S.nd k).log.length : Nat) : Int) L) ⟨S, [], 0⟩ S.n := rfl
      have hn1 : (rnd1 S k L).S.n = S.n := by rw [rnd1_S]
      have hT1 : (rnd1 S k L).told.length ≤ S.n := by rw [rnd1_len]; exact cntP_le _ _
      have hl1 : ∀ l ∈ (rnd1 S k L).told, l.length ≤ 100000 := fun l hl => told_len (fun j hj => HI.out.good j hj) hl
      have hrd1 : ((rnd1 S k L).S.nd k).rd = (S.nd k).rd := by rw [rnd1_S]; exact (nd1_same _ _ _ _ _).2.1
      rw [← hg] at q1 q3
      rw [← hg]
      have HR1e := Lib.hid hg
      clear hg
      obtain ⟨At, ct, htv⟩ := q3.shape
      subst htv
      have y1 := q2.cells HP5.out rfl HX1.out (by decide)
      have y2 := q2.cells HP5.out rfl HX2.out (by decide)
      have y3 := q2.cells HP5.out rfl HX3.out (by decide)
      have y4 := q2.cells HP5.out rfl HX4.out (by decide)
      have y5 := q2.cells HP5.out rfl HX5.out (by decide)
      have hb7 : Below w6.heap.size w6 (w6.alloc (.cells #[.slice At (rnd1 S k L).told.length ct, .int .i64 (rnd1 S k L).hi] 88 (0, 0))) := below_row0 _ _
      have hy4 : Bx (w6.alloc (.cells #[.slice At (rnd1 S k L).told.length ct, .int .i64 (rnd1 S k L).hi] 88 (0, 0))) (w.heap.size + 1 + 1 + 1) 3 (.int .i64 (numV (S.nd k).rd (k : Int))) := Bx.below y4 hb7
      have z0 := hy4.cell
      have z1 := hy4.free
      have z2 : (w6.alloc (.cells #[.slice At (rnd1 S k L).told.length ct, .int .i64 (rnd1 S k L).hi] 88 (0, 0))).cell? ⟨w6.heap.size, 1, none⟩ = some (.int .i64 (rnd1 S k L).hi) := by rw [cell_at (heap_alloc_new w6 _)]; rfl
      have hc8 : Chg (fun b _ => b = w.heap.size + 1 + 1 + 1) (w6.alloc (.cells #[.slice At (rnd1 S k L).told.length ct, .int .i64 (rnd1 S k L).hi] 88 (0, 0))) ((w6.alloc (.cells #[.slice At (rnd1 S k L).told.length ct, .int .i64 (rnd1 S k L).hi] 88 (0, 0))).setCell ⟨w.heap.size + 1 + 1 + 1, 0, none⟩ (.int .i64 (max (numV (S.nd k).rd (k : Int)) (rnd1 S k L).hi))) := Chg.of_fb (Fb.same.set 0 _) (fun _ _ => rfl)
      have hP8 : PG ((w6.alloc (.cells #[.slice At (rnd1 S k L).told.length ct, .int .i64 (rnd1 S k L).hi] 88 (0, 0))).setCell ⟨w.heap.size + 1 + 1 + 1, 0, none⟩ (.int .i64 (max (numV (S.nd k).rd (k : Int)) (rnd1 S k L).hi))) g (rnd1 S k L).S P1 := (q1.below hb7).other hc8 (fun b o hb e => by
        have e' : b = w.heap.size + 1 + 1 + 1 := e
        have h4 : (w6.alloc (.cells #[.slice At (rnd1 S k L).told.length ct, .int .i64 (rnd1 S k L).hi] 88 (0, 0))).heap[w.heap.size + 1 + 1 + 1]? = _ := hy4
        rw [e', h4] at hb
        injection hb with hb
        exact ⟨_, _, hb.symm, by decide⟩)
      have HM := maj_any hP8 (rnd1 S k L).told.length (by have := HI.out.n5; omega)
      rw [hn1] at HM
      have HH8 := Lib.hid (Bx.set hy4 (.int .i64 (max (numV (S.nd k).rd (k : Int)) (rnd1 S k L).hi)))
      have hkp : ∀ (b : Nat) (cs : Array Value) (t : TypeId), b ≠ w.heap.size + 1 + 1 + 1 → w6.heap[b]? = some (Obj.cells cs t (0, 0)) → ((w6.alloc (.cells #[.slice At (rnd1 S k L).told.length ct, .int .i64 (rnd1 S k L).hi] 88 (0, 0))).setCell ⟨w.heap.size + 1 + 1 + 1, 0, none⟩ (.int .i64 (max (numV (S.nd k).rd (k : Int)) (rnd1 S k L).hi))).heap[b]? = some (Obj.cells cs t (0, 0)) := fun b cs t hne hb => hc8.keep ((hb7.block b (lt_of hb)).trans hb) (fun e => hne e)
      have Y1 := Lib.hid (hkp _ _ _ (by omega) y1)
      have Y2 := Lib.hid (hkp _ _ _ (by omega) y2)
      have Y3 := Lib.hid (hkp _ _ _ (by omega) y3)
      have Y5 := Lib.hid (hkp _ _ _ (by omega) y5)
      have hAn : ((w6.alloc (.cells #[.slice At (rnd1 S k L).told.length ct, .int .i64 (rnd1 S k L).hi] 88 (0, 0))).setCell ⟨w.heap.size + 1 + 1 + 1, 0, none⟩ (.int .i64 (max (numV (S.nd k).rd (k : Int)) (rnd1 S k L).hi))).heap[w6.heap.size]? = some (.cells #[.slice At (rnd1 S k L).told.length ct, .int .i64 (rnd1 S k L).hi] 88 (0, 0)) := hc8.keep (heap_alloc_new w6 _) (fun e => by have e' : w6.heap.size = w.heap.size + 1 + 1 + 1 := e; have := q2.chg.size; have := HSz.out; omega)
      have YA := Lib.hid hAn
      have hT6 : Tld 75 90 ((w6.alloc (.cells #[.slice At (rnd1 S k L).told.length ct, .int .i64 (rnd1 S k L).hi] 88 (0, 0))).setCell ⟨w.heap.size + 1 + 1 + 1, 0, none⟩ (.int .i64 (max (numV (S.nd k).rd (k : Int)) (rnd1 S k L).hi))) 0 (.slice At (rnd1 S k L).told.length ct) (rnd1 S k L).told := q3.kept (fun b cs t ht hb => hkp b cs t (fun e => by
        rw [e, y4] at hb
        injection hb with hb
        injection hb with _ h2
        rcases ht with e5 | e5
        · rw [e5] at h2; exact absurd h2 (by decide)
        · rw [e5] at h2; exact absurd h2 (by decide)) hb)
      have YT := Lib.hid hT6
      have HP8 := Lib.hid hP8
      have HPT8 := Lib.hid (((PT.of_below HB5.out).trans q2).fresh (Chg.trans (Chg.of_below (p := fun b _ => w.heap.size ≤ b) hb7) hc8 (fun b o hb e => by have e' : b = w.heap.size + 1 + 1 + 1 := e; show w.heap.size ≤ b; omega)) (fun b o e => e))
      have HM := Lib.hid HM
      have hsz8 : w6.heap.size < ((w6.alloc (.cells #[.slice At (rnd1 S k L).told.length ct, .int .i64 (rnd1 S k L).hi] 88 (0, 0))).setCell ⟨w.heap.size + 1 + 1 + 1, 0, none⟩ (.int .i64 (max (numV (S.nd k).rd (k : Int)) (rnd1 S k L).hi))).heap.size := by have := lt_of hAn; exact this
      have hsz6 : w.heap.size + 5 ≤ w6.heap.size := by have := q2.chg.size; have := HSz.out; omega
      have HS1 := Lib.hid hT1
      clear q1 q2 q3 y1 y2 y3 y4 y5 hb7 hy4 hc8 hP8 hkp hAn hT6 hT1
      have u1 := (show Bx ((w6.alloc (.cells #[.slice At (rnd1 S k L).told.length ct, .int .i64 (rnd1 S k L).hi] 88 (0, 0))).setCell ⟨w.heap.size + 1 + 1 + 1, 0, none⟩ (.int .i64 (max (numV (S.nd k).rd (k : Int)) (rnd1 S k L).hi))) w.heap.size 25 (.pointer (some ⟨g, 0, none⟩)) from Y1.out).cell
      have u2 : ((w6.alloc (.cells #[.slice At (rnd1 S k L).told.length ct, .int .i64 (rnd1 S k L).hi] 88 (0, 0))).setCell ⟨w.heap.size + 1 + 1 + 1, 0, none⟩ (.int .i64 (max (numV (S.nd k).rd (k : Int)) (rnd1 S k L).hi))).cell? ⟨w6.heap.size, 0, none⟩ = some (.slice At (rnd1 S k L).told.length ct) := by rw [cell_at YA.out]; rfl
      by_cases hm1 : S.n < 2 * (rnd1 S k L).told.length
      · rw [decide_eq_true hm1] at HM
        have u3 := (show Bx ((w6.alloc (.cells #[.slice At (rnd1 S k L).told.length ct, .int .i64 (rnd1 S k L).hi] 88 (0, 0))).setCell ⟨w.heap.size + 1 + 1 + 1, 0, none⟩ (.int .i64 (max (numV (S.nd k).rd (k : Int)) (rnd1 S k L).hi))) (w.heap.size + 1 + 1 + 1 + 1) 3 (.int .i64 (((S.nd k).log.length : Nat) : Int)) from Y5.out).cell
        have u4 := (show Bx ((w6.alloc (.cells #[.slice At (rnd1 S k L).told.length ct, .int .i64 (rnd1 S k L).hi] 88 (0, 0))).setCell ⟨w.heap.size + 1 + 1 + 1, 0, none⟩ (.int .i64 (max (numV (S.nd k).rd (k : Int)) (rnd1 S k L).hi))) (w.heap.size + 1 + 1) 3 (.int .i64 (numV (S.nd k).rd (k : Int))) from Y3.out).cell
        have HVf := Lib.hid (show Calls Tryz.prog 42 #[.int .i64 (((S.nd k).log.length : Nat) : Int), .int .i64 (numV (S.nd k).rd (k : Int)), .string x, .slice At (rnd1 S k L).told.length ct] ((w6.alloc (.cells #[.slice At (rnd1 S k L).told.length ct, .int .i64 (rnd1 S k L).hi] 88 (0, 0))).setCell ⟨w.heap.size + 1 + 1 + 1, 0, none⟩ (.int .i64 (max (numV (S.nd k).rd (k : Int)) (rnd1 S k L).hi))) fun e w' => e = .returned (voteOf S k x L).val ∧ Below ((w6.alloc (.cells #[.slice At (rnd1 S k L).told.length ct, .int .i64 (rnd1 S k L).hi] 88 (0, 0))).setCell ⟨w.heap.size + 1 + 1 + 1, 0, none⟩ (.int .i64 (max (numV (S.nd k).rd (k : Int)) (rnd1 S k L).hi))).heap.size ((w6.alloc (.cells #[.slice At (rnd1 S k L).told.length ct, .int .i64 (rnd1 S k L).hi] 88 (0, 0))).setCell ⟨w.heap.size + 1 + 1 + 1, 0, none⟩ (.int .i64 (max (numV (S.nd k).rd (k : Int)) (rnd1 S k L).hi))) w' from voteFor_any YT.out (by have := HS1.out; have := HI.out.n5; omega) hl1 (((S.nd k).log.length : Nat) : Int) (numV (S.nd k).rd (k : Int)) x hxs)
        have hA := first_ask HI.out HE2.out hR hm1 x
        have hSec := second HI.out HE2.out hR hm1 x
        have HTab := Lib.hid (fun j (hj : j ≤ (rnd1 S k L).S.n) => (Sec.goes (S := S) hA hn1 (fun j => by rw [rnd1_S]; obtain ⟨a, b, c⟩ := nd1_same S (balOf S k) L S.n j; exact ⟨a, c, b⟩) L j (by rw [← hn1]; exact hj)).ask.inv.tabOk)
        have HSec := Lib.hid hSec
        clear hA hSec
        go_wp2_with (go_at_call 31; (with_reducible refine HM.out.mono ?_); rintro e w9 ⟨rfl, rfl⟩)
        go_at_call 42
        (with_reducible refine HVf.out.mono ?_)
        rintro e w9 ⟨rfl, hb9⟩
        clear HVf HM u1 u2 u3 u4 z0 z1 z2
        generalize ((w6.alloc (.cells #[.slice At (rnd1 S k L).told.length ct, .int .i64 (rnd1 S k L).hi] 88 (0, 0))).setCell ⟨w.heap.size + 1 + 1 + 1, 0, none⟩ (.int .i64 (max (numV (S.nd k).rd (k : Int)) (rnd1 S k L).hi))) = w8 at HH8 Y1 Y2 Y3 Y5 YA YT HP8 HPT8 hsz8 hb9
        generalize hZ : w.heap.size = Z at *
        generalize hvo : voteOf S k x L = v at *
        -- the second round
        have hb10 : Below w9.heap.size w9 (w9.alloc (.cells v.cells 75 (0, 0))) := below_row0 _ _
        have hB10 : Below w8.heap.size w8 (w9.alloc (.cells v.cells 75 (0, 0))) := hb9.trans (hb10.mono hb9.size)
        have hP10 := HP8.out.below hB10
        have y1 := Bx.below Y1.out hB10
        have y2 := Bx.below Y2.out hB10
        have y4 := Bx.below HH8.out hB10
        have y5 := Bx.below Y5.out hB10
        have yV : AV 75 (w9.alloc (.cells v.cells 75 (0, 0))) w9.heap.size v := AV.fresh 75 w9 v
        have hAB := askB_any (L := L) (Lq := L / 4) hP10 (by rw [hn1]; exact HI.out.n5) y1 yV HTab.out (by omega) (fun j => by rw [show (4 : Nat) = 2 ^ 2 from rfl, Nat.testBit_div_two_pow]) (fun j => by rw [show L / 4 = L / 2 ^ 2 from rfl, Nat.testBit_div_two_pow])
        rw [hn1, show ((L / 4 : Nat) : Int) = (L : Int) / 4 by omega] at hAB
        have HAB := Lib.hid hAB
        have HPT10 := Lib.hid (HPT8.out.trans (PT.of_below hB10))
        have z1 := y1.cell
        have HX1 := Lib.hid y1
        have HX2 := Lib.hid y2
        have HX4 := Lib.hid y4
        have HX5 := Lib.hid y5
        have HXV := Lib.hid yV
        have HP10 := Lib.hid hP10
        clear hAB hb10 hB10 hP10 y1 y2 y4 y5 yV hb9 Y1 Y2 Y3 Y5 YA YT HP8 HPT8 hsz8 HH8
        obtain ⟨vs, vb, vx⟩ := v
        go_wp2_with fail
        go_at_call 39
        (with_reducible refine HAB.out.mono ?_)
        rintro e w11 ⟨P2, tv2, rfl, q1, q2, q3⟩
        clear HAB z1
        generalize w9.alloc (.cells (⟨vs, vb, vx⟩ : V).cells 75 (0, 0)) = w10 at q2 HX1 HX2 HX4 HX5 HXV HP10 HPT10
        have hg2 : rnd2 S k x L = goes (ask2 ⟨vs, vb, vx⟩ L) ⟨(rnd1 S k L).S, [], 0⟩ S.n := by unfold rnd2; rw [hvo]
        rw [← hg2] at q1 q3
        rw [← hg2]
        have hn2 : (rnd2 S k x L).S.n = S.n := HSec.out.n
        have hT2 : (rnd2 S k x L).told.length ≤ S.n := Nat.le_trans HSec.out.told (cntP_le _ _)
        have hlg2 : ((rnd2 S k x L).S.nd k).log.length < 4096 := by rw [(HSec.out.same k).1]; exact hlog
        clear hg2
        obtain ⟨Au, cu, htv2⟩ := q3.shape
        subst htv2
        have y1 := q2.cells HP10.out hn1 HX1.out (by decide)
        have y2 := q2.cells HP10.out hn1 HX2.out (by decide)
        have y4 := q2.cells HP10.out hn1 HX4.out (by decide)
        have y5 := q2.cells HP10.out hn1 HX5.out (by decide)
        have yV := q2.cells HP10.out hn1 HXV.out (by decide)
        have hb12 : Below w11.heap.size w11 (w11.alloc (.cells #[.slice Au (rnd2 S k x L).told.length cu, .int .i64 (rnd2 S k x L).hi] 88 (0, 0))) := below_row0 _ _
        have hy4 : Bx (w11.alloc (.cells #[.slice Au (rnd2 S k x L).told.length cu, .int .i64 (rnd2 S k x L).hi] 88 (0, 0))) (Z + 1 + 1 + 1) 3 (.int .i64 (max (numV (S.nd k).rd (k : Int)) (rnd1 S k L).hi)) := Bx.below y4 hb12
        have z0 := hy4.cell
        have z1 := hy4.free
        have z2 : (w11.alloc (.cells #[.slice Au (rnd2 S k x L).told.length cu, .int .i64 (rnd2 S k x L).hi] 88 (0, 0))).cell? ⟨w11.heap.size, 1, none⟩ = some (.int .i64 (rnd2 S k x L).hi) := by rw [cell_at (heap_alloc_new w11 _)]; rfl
        have hc12 : Chg (fun b _ => b = Z + 1 + 1 + 1) (w11.alloc (.cells #[.slice Au (rnd2 S k x L).told.length cu, .int .i64 (rnd2 S k x L).hi] 88 (0, 0))) ((w11.alloc (.cells #[.slice Au (rnd2 S k x L).told.length cu, .int .i64 (rnd2 S k x L).hi] 88 (0, 0))).setCell ⟨Z + 1 + 1 + 1, 0, none⟩ (.int .i64 (max (numV (S.nd k).rd (k : Int)) (max (rnd1 S k L).hi (rnd2 S k x L).hi)))) := Chg.of_fb (Fb.same.set 0 _) (fun _ _ => rfl)
        have hP12 : PG ((w11.alloc (.cells #[.slice Au (rnd2 S k x L).told.length cu, .int .i64 (rnd2 S k x L).hi] 88 (0, 0))).setCell ⟨Z + 1 + 1 + 1, 0, none⟩ (.int .i64 (max (numV (S.nd k).rd (k : Int)) (max (rnd1 S k L).hi (rnd2 S k x L).hi)))) g (rnd2 S k x L).S P2 := (q1.below hb12).other hc12 (fun b o hb e => by
          have e' : b = Z + 1 + 1 + 1 := e
          have h4 : (w11.alloc (.cells #[.slice Au (rnd2 S k x L).told.length cu, .int .i64 (rnd2 S k x L).hi] 88 (0, 0))).heap[Z + 1 + 1 + 1]? = _ := hy4
          rw [e', h4] at hb
          injection hb with hb
          exact ⟨_, _, hb.symm, by decide⟩)
        have HM := maj_any hP12 (rnd2 S k x L).told.length (by have := HI.out.n5; omega)
        rw [hn2] at HM
        have HM := Lib.hid HM
        have HH8 := Lib.hid (Bx.set hy4 (.int .i64 (max (numV (S.nd k).rd (k : Int)) (max (rnd1 S k L).hi (rnd2 S k x L).hi))))
        have hkp : ∀ (b : Nat) (cs : Array Value) (t : TypeId), b ≠ Z + 1 + 1 + 1 → w11.heap[b]? = some (Obj.cells cs t (0, 0)) → ((w11.alloc (.cells #[.slice Au (rnd2 S k x L).told.length cu, .int .i64 (rnd2 S k x L).hi] 88 (0, 0))).setCell ⟨Z + 1 + 1 + 1, 0, none⟩ (.int .i64 (max (numV (S.nd k).rd (k : Int)) (max (rnd1 S k L).hi (rnd2 S k x L).hi)))).heap[b]? = some (Obj.cells cs t (0, 0)) := fun b cs t hne hb => hc12.keep ((hb12.block b (lt_of hb)).trans hb) (fun e => hne e)
        have hV3 : w9.heap.size ≠ Z + 1 + 1 + 1 := fun e => by
          have h5 : w11.heap[w9.heap.size]? = _ := yV
          rw [e, y4] at h5
          injection h5 with h5
          injection h5 with _ h6
          exact absurd h6 (by decide)
        have Y1 := Lib.hid (hkp _ _ _ (by omega) y1)
        have Y2 := Lib.hid (hkp _ _ _ (by omega) y2)
        have Y5 := Lib.hid (show Bx ((w11.alloc (.cells #[.slice Au (rnd2 S k x L).told.length cu, .int .i64 (rnd2 S k x L).hi] 88 (0, 0))).setCell ⟨Z + 1 + 1 + 1, 0, none⟩ (.int .i64 (max (numV (S.nd k).rd (k : Int)) (max (rnd1 S k L).hi (rnd2 S k x L).hi)))) (Z + 1 + 1 + 1 + 1) 3 (.int .i64 (((S.nd k).log.length : Nat) : Int)) from hkp _ _ _ (by omega) y5)
        have YV := Lib.hid (show AV 75 ((w11.alloc (.cells #[.slice Au (rnd2 S k x L).told.length cu, .int .i64 (rnd2 S k x L).hi] 88 (0, 0))).setCell ⟨Z + 1 + 1 + 1, 0, none⟩ (.int .i64 (max (numV (S.nd k).rd (k : Int)) (max (rnd1 S k L).hi (rnd2 S k x L).hi)))) w9.heap.size ⟨vs, vb, vx⟩ from hkp _ _ _ hV3 yV)
        have hAn : ((w11.alloc (.cells #[.slice Au (rnd2 S k x L).told.length cu, .int .i64 (rnd2 S k x L).hi] 88 (0, 0))).setCell ⟨Z + 1 + 1 + 1, 0, none⟩ (.int .i64 (max (numV (S.nd k).rd (k : Int)) (max (rnd1 S k L).hi (rnd2 S k x L).hi)))).heap[w11.heap.size]? = some (.cells #[.slice Au (rnd2 S k x L).told.length cu, .int .i64 (rnd2 S k x L).hi] 88 (0, 0)) := hc12.keep (heap_alloc_new w11 _) (fun e => by have e' : w11.heap.size = Z + 1 + 1 + 1 := e; have := Bx.lt y4; omega)
        have HP12 := Lib.hid hP12
        have HPT12 := Lib.hid ((HPT10.out.trans q2).fresh (Chg.trans (Chg.of_below (p := fun b _ => w.heap.size ≤ b) hb12) hc12 (fun b o hb e => by have e' : b = Z + 1 + 1 + 1 := e; show w.heap.size ≤ b; omega)) (fun b o e => e))
        have u1 := (show Bx ((w11.alloc (.cells #[.slice Au (rnd2 S k x L).told.length cu, .int .i64 (rnd2 S k x L).hi] 88 (0, 0))).setCell ⟨Z + 1 + 1 + 1, 0, none⟩ (.int .i64 (max (numV (S.nd k).rd (k : Int)) (max (rnd1 S k L).hi (rnd2 S k x L).hi)))) Z 25 (.pointer (some ⟨g, 0, none⟩)) from Y1.out).cell
        have u2 : ((w11.alloc (.cells #[.slice Au (rnd2 S k x L).told.length cu, .int .i64 (rnd2 S k x L).hi] 88 (0, 0))).setCell ⟨Z + 1 + 1 + 1, 0, none⟩ (.int .i64 (max (numV (S.nd k).rd (k : Int)) (max (rnd1 S k L).hi (rnd2 S k x L).hi)))).cell? ⟨w11.heap.size, 0, none⟩ = some (.slice Au (rnd2 S k x L).told.length cu) := by rw [cell_at hAn]; rfl
        have hk2 : k < (rnd2 S k x L).S.n := by rw [hn2]; exact HE2.out
        have hnds : P2.nds = P.nds := HPT12.out.fix.2.2.2.1
        clear q1 q2 q3 y1 y2 y4 y5 yV hb12 hy4 hc12 hP12 hkp hV3 hAn HX1 HX2 HX4 HX5 HXV HP10 HPT10 HTab
        by_cases hm2 : S.n < 2 * (rnd2 S k x L).told.length
        · rw [decide_eq_true hm2] at HM
          go_wp2_with (go_at_call 31; (with_reducible refine HM.out.mono ?_); rintro e w13 ⟨rfl, rfl⟩)
          clear z0 z1 z2 u1 u2
          generalize ((w11.alloc (.cells #[.slice Au (rnd2 S k x L).told.length cu, .int .i64 (rnd2 S k x L).hi] 88 (0, 0))).setCell ⟨Z + 1 + 1 + 1, 0, none⟩ (.int .i64 (max (numV (S.nd k).rd (k : Int)) (max (rnd1 S k L).hi (rnd2 S k x L).hi)))) = w12 at HM HH8 Y1 Y2 Y5 YV HP12 HPT12 ⊢
          have he := HPE.out
          have hs := HPS.out
          rw [if_neg (by omega), if_neg (by omega)] at he hs
          have HE := Lib.hid he
          have HS := Lib.hid hs
          clear he hs
          have hbd : Below w12.heap.size w12 w12.drew := (Below.refl _ _).drew
          have hbB : Below w12.heap.size w12 (w12.alloc (.cells #[.string vx] 9 (0, 0))).drew := ((Below.refl _ _).alloc (Nat.le_refl _) _).drew
          have hPd := HP12.out.below hbd
          have hPB := HP12.out.below hbB
          obtain ⟨ti, ti0, tz0, tz1, tz2⟩ := info_parts infoStr
          have hNd := hPd.nd k hk2
          have hNB := hPB.nd k hk2
          obtain ⟨Al2, cl2, hlv2, -, -⟩ := hNd.log.form
          have n0 := (Bx.below Y2.out hbd).cell
          have n1 := hNd.c2
          have n2 := (AV.below YV.out hbd).all.2.2
          have m0 := (Bx.below Y2.out hbB).cell
          have m1 := hNB.c2
          have m2 := (AV.below YV.out hbB).all.2.2
          rw [hnds, hlv2] at n1 m1
          have hown := hNB.log
          rw [hlv2] at hown
          have HO := Lib.hid hown
          have hlr : (P2.lr k) = .slice Al2 ((rnd2 S k x L).S.nd k).log.length cl2 := hlv2
          have hsB : P2.B ≤ (w12.alloc (.cells #[.string vx] 9 (0, 0))).drew.heap.size := by have := hNB.lo; have := lt_of hNB.cs; omega
          have hcsB := hNB.cs
          rw [hnds] at hcsB
          have HCB := Lib.hid hcsB
          have HPB := Lib.hid hPB
          have HBB := Lib.hid hbB
          have HY2B := Lib.hid (Bx.below Y2.out hbB)
          have HYVB := Lib.hid (AV.below YV.out hbB)
          have HY5B := Lib.hid (Bx.below Y5.out hbB)
          have HH8B := Lib.hid (Bx.below HH8.out hbB)
          have hkB : ∀ (w2 : World), (w12.alloc (.cells #[.string vx] 9 (0, 0))).drew.grownBy w2 (Value.ownBlock (.slice Al2 ((rnd2 S k x L).S.nd k).log.length cl2)) → ∀ (b : Nat) (cs : Array Value) (t : TypeId), t ≠ 9 → (w12.alloc (.cells #[.string vx] 9 (0, 0))).drew.heap[b]? = some (Obj.cells cs t (0, 0)) → w2.heap[b]? = some (Obj.cells cs t (0, 0)) := fun w2 hg b cs t ht hb => (hg.block b (lt_of hb) (fun e => by
            obtain ⟨cur, h3⟩ := OwnsS.ty HO.out e.symm
            rw [hb] at h3
            injection h3 with h3
            injection h3 with _ h4
            exact ht h4)).trans hb
          have HKB := Lib.hid hkB
          clear hbd hbB hPd hPB hNd hNB hown hcsB hkB
          have HPT12' := HPT12
          go_cut [] from 90 to 100 (fun wx => ∃ P3, PG wx g ((rnd2 S k x L).S.push k vx) P3 ∧ PT S.n P2 P3 w12 wx)
          case first =>
            refine wp_region_noPanic ?_
            go_region_law
              ((refine step_append_lies _ (by rfl) (.tmp 94) (.tmp 97) 39 (by rfl) P2.B 9 ti _ 1 16 Tryz.underlying39 ti0 tz0 tz1 tz2 rfl (by omega) (.slice Al2 ((rnd2 S k x L).S.nd k).log.length cl2) ((rnd2 S k x L).S.nd k).log.length (scs ((rnd2 S k x L).S.nd k).log) (by rfl) HO.out ⟨w12.heap.size, 0, none⟩ 1 1 [.string vx] (by rfl) rfl (World.news_of_block (w := (w12.alloc (.cells #[.string vx] 9 (0, 0))).drew) (heap_alloc_new w12 _)) (by intro x hx; obtain rfl := List.mem_singleton.1 hx; rfl) (by omega) (by unfold maxLen; omega) (by omega) hsB (w12.heap.size + 1) (by simp) ?_; intro g2 cap w2 hown2 hgrow hat hlt; (have p0 := Bx.cell (show Bx w2 (Z + 1) 58 (.pointer (some ⟨P.nds k, 0, none⟩)) from HKB.out w2 hgrow _ _ _ (by decide) HY2B.out)); (have p1 := free_at (HKB.out w2 hgrow _ _ _ (by decide) HCB.out) 2); (have p2 : w2.cell? ⟨P.nds k, 2, none⟩ = some (P2.lr k) := by rw [cell_at (HKB.out w2 hgrow _ _ _ (by decide) HCB.out)]; rfl); (have p3 := (show AV 75 w2 w9.heap.size ⟨vs, vb, vx⟩ from HKB.out w2 hgrow _ _ _ (by decide) HYVB.out).all.2.2)))
            all_goals (
              have hcw := (HPB.out.logged hk2 (by rw [hlr]; exact hgrow) (v := .slice (some ⟨g2, 0, none⟩) (((rnd2 S k x L).S.nd k).log.length + 1) cap) (l := ((rnd2 S k x L).S.nd k).log ++ [vx]) (by unfold OwnsS; rw [List.length_append, List.length_singleton, ← scs_more]; exact hown2) (fun b hb => by
                simp only [Value.ownBlock, Option.some.injEq] at hb
                subst hb
                rw [hlr]
                rcases hat with e | e
                · exact .inl e
                · right; rw [e]; show (w12.alloc (.cells #[.string vx] 9 (0, 0))).heap.size ≤ _; simp))
              rw [hnds, hn2] at hcw
              refine NoPanic.normal ?_
              go_wp2_with fail
              go_meet
              exact ⟨_, hcw.1, (PT.of_below HBB.out).trans hcw.2⟩)

          case rest =>
            obtain ⟨P3, k1, k2⟩ := hcut
            have K1 := Lib.hid k1
            have K2 := Lib.hid k2
            have Y1x := Lib.hid (k2.cells HP12.out hn2 Y2.out (by decide))
            have YHx := Lib.hid (k2.cells HP12.out hn2 HH8.out (by decide))
            have Y5x := Lib.hid (k2.cells HP12.out hn2 Y5.out (by decide))
            have YVx := Lib.hid (show AV 75 wc w9.heap.size ⟨vs, vb, vx⟩ from k2.cells HP12.out hn2 YV.out (by decide))
            have s0 := Bx.cell (show Bx wc (Z + 1 + 1 + 1 + 1) 3 (.int .i64 (((S.nd k).log.length : Nat) : Int)) from Y5x.out)
            have s1 := YVx.out.all.2.2
            clear k1 k2 n0 n1 n2 m0 m1 m2
            go_wp2_with fail
            go_quiet (fail)
            go_wp2
            have hbq : Below wc.heap.size wc (wc.drewN nq) := below_drewN (Below.refl _ _) nq
            have hP13 := K1.out.below hbq
            have hnds3 : P3.nds = P.nds := K2.out.fix.2.2.2.1.trans hnds
            have hn3 : ((rnd2 S k x L).S.push k vx).n = S.n := hn2
            have hk3 : k < ((rnd2 S k x L).S.push k vx).n := by rw [hn3]; exact HE2.out
            refine leaves_cons (f := 37) (args := #[.pointer (some ⟨Z + 1 + 1 + 1, 0, none⟩), .pointer (some ⟨Z + 1, 0, none⟩)]) (by simp) (by simp [go_sem]) ?_
            have hcs := (hP13.nd k hk3).cs
            rw [hnds3] at hcs
            refine (raise_any .returning (Bx.below YHx.out hbq) (Bx.below Y1x.out hbq) hcs rfl).mono ?_
            rintro e u' w14 ⟨rfl, rfl, rfl⟩
            obtain ⟨r1, r2⟩ := hP13.raise hk3 (ownR (max (numV (S.nd k).rd (k : Int)) (max (rnd1 S k L).hi (rnd2 S k x L).hi)) + 1)
            rw [hnds3, hn3] at r2
            rw [hnds3] at r1
            refine ⟨_, results_tmp3 rfl _ _ _, P3, ?_, ?_, ((HPT12.out.trans K2.out).trans (PT.of_below hbq)).trans r2⟩
            · rw [HE.out]; rfl
            · rw [HS.out]; exact r1
        · rw [decide_eq_false hm2] at HM
          have he := HPE.out
          have hs := HPS.out
          rw [if_neg (by omega), if_pos (by omega)] at he hs
          have HE := Lib.hid he
          have HS := Lib.hid hs
          clear he hs
          go_wp2_with (go_at_call 31; (with_reducible refine HM.out.mono ?_); rintro e w13 ⟨rfl, rfl⟩)
          generalize ((w11.alloc (.cells #[.slice Au (rnd2 S k x L).told.length cu, .int .i64 (rnd2 S k x L).hi] 88 (0, 0))).setCell ⟨Z + 1 + 1 + 1, 0, none⟩ (.int .i64 (max (numV (S.nd k).rd (k : Int)) (max (rnd1 S k L).hi (rnd2 S k x L).hi)))) = w12 at HM HH8 Y1 Y2 YV HP12 HPT12 ⊢
          refine leaves_cons (f := 37) (args := #[.pointer (some ⟨Z + 1 + 1 + 1, 0, none⟩), .pointer (some ⟨Z + 1, 0, none⟩)]) (by simp) (by simp [go_sem]) ?_
          have hcs := (HP12.out.nd k hk2).cs
          rw [hnds] at hcs
          refine (raise_any .returning HH8.out Y2.out hcs rfl).mono ?_
          rintro e u' w13 ⟨rfl, rfl, rfl⟩
          obtain ⟨r1, r2⟩ := HP12.out.raise hk2 (ownR (max (numV (S.nd k).rd (k : Int)) (max (rnd1 S k L).hi (rnd2 S k x L).hi)) + 1)
          rw [hnds, hn2] at r2
          rw [hnds] at r1
          refine ⟨_, results_tmp3 rfl _ _ _, P2, ?_, ?_, HPT12.out.trans r2⟩
          · rw [HE.out]; rfl
          · rw [HS.out]
            exact r1
      · rw [decide_eq_false hm1] at HM
        have he := HPE.out
        have hs := HPS.out
        rw [if_pos (by omega)] at he hs
        have HE := Lib.hid he
        have HS := Lib.hid hs
        clear he hs
        go_wp2_with (go_at_call 31; (with_reducible refine HM.out.mono ?_); rintro e w9 ⟨rfl, rfl⟩)
        generalize ((w6.alloc (.cells #[.slice At (rnd1 S k L).told.length ct, .int .i64 (rnd1 S k L).hi] 88 (0, 0))).setCell ⟨w.heap.size + 1 + 1 + 1, 0, none⟩ (.int .i64 (max (numV (S.nd k).rd (k : Int)) (rnd1 S k L).hi))) = w8 at HM HH8 Y1 Y2 Y3 Y5 YA YT HP8 HPT8 hsz8 ⊢
        generalize hZ : w.heap.size = Z at *
        refine leaves_cons (f := 37) (args := #[.pointer (some ⟨Z + 1 + 1 + 1, 0, none⟩), .pointer (some ⟨Z + 1, 0, none⟩)]) (by simp) (by simp [go_sem]) ?_
        have hk1 : k < (rnd1 S k L).S.n := by rw [hn1]; exact HE2.out
        have hNk := HP8.out.nd k hk1
        have hnds : P1.nds = P.nds := HPT8.out.fix.2.2.2.1
        have hcs := hNk.cs
        rw [hnds] at hcs
        refine (raise_any .returning HH8.out Y2.out hcs rfl).mono ?_
        rintro e u' w9 ⟨rfl, rfl, rfl⟩
        obtain ⟨r1, r2⟩ := HP8.out.raise hk1 (ownR (max (numV (S.nd k).rd (k : Int)) (rnd1 S k L).hi) + 1)
        rw [hnds, hn1] at r2
        rw [hnds] at r1
        refine ⟨_, results_tmp3 rfl _ _ _, P1, ?_, ?_, HPT8.out.trans r2⟩
        · rw [HE.out]; rfl
        · rw [HS.out]; exact r1
    · have hE : refE S (k : Int) x ≠ 0 := by rw [hnum]; exact hR
      obtain ⟨q1, q2⟩ := proE_ref (L := L) hE
      rw [q1, q2, hnum]
      have hRb : (numR (S.nd k).rd (k : Int) != 0) = true := by simpa using hR
      have HB2 := Lib.hid (hb2.alloc (by simp; omega) (.cells #[.int .i64 (numV (S.nd k).rd (k : Int))] 3))
      clear h hP1 hP2 hI q1 q2 hE hnum hU hb1 hb2 hh hk
      go_enter_defers Tryz.func21, Tryz.ntmps21
      go_wp2_with (first
        | (go_at_call 35; (with_reducible refine HRf.out.mono ?_); rintro e w2 ⟨rfl, rfl⟩)
        | (go_at_call 36; (with_reducible refine (HN.out _).mono ?_); rintro e w2 ⟨rfl, rfl⟩)
        | fail)
      exact ⟨_, results_tmp3 rfl _ _ _, P, rfl, HP.out.below HB2.out, PT.of_below HB2.out⟩
  · have hE : refE S i x ≠ 0 := by rw [refE_refU, if_pos hU]; exact hU
    have hE2 : refE S i x = refU S i x := by rw [refE_refU, if_pos hU]
    obtain ⟨q1, q2⟩ := proE_ref (L := L) hE
    rw [q1, q2, hE2]
    have hUb : (refU S i x != 0) = true := by simpa using hU
    have HB1 := Lib.hid hb1
    clear h hP1 hI q1 q2 hE hE2 hb1
    go_enter_defers Tryz.func21, Tryz.ntmps21
    go_wp2_with (go_at_call 35; (with_reducible refine HRf.out.mono ?_); rintro e w2 ⟨rfl, rfl⟩)
    exact ⟨_, results_tmp3 rfl _ _ _, P, rfl, HP.out.below HB1.out, PT.of_below HB1.out⟩
end Go.Proofs.YtkcbmkedhipgeaaGreatDoor
