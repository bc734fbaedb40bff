/-
  has, Log, Set, bit, seen of the document's own (weirkeepref11), by contracts.

  What a round of the document's own Propose leaves, as plain data and in memory: an acceptor has turned; the round rises while it goes.

  What the document's own Propose (weirkeepref11) refuses, by a contract.
-/
import Derived.Test.YtkcbmkedhipgeaaGreatDoorRm
import Derived.Test.YtkcbmkedhipgeaaGreatDoorPq9
namespace Go.Proofs.YtkcbmkedhipgeaaGreatDoor
open Go.RowKit Go.ChangeMaps

theorem rhas_any {w : World} {r : Nat} {S : Gp} {Q : Ql} (h : RG w r S Q) (i : Int) : Calls Tryz.prog 30 #[.pointer (some ⟨r, 0, none⟩), .int .i64 i] w fun e w' => e = .returned (.bool (S.has i)) ∧ w = w' := by
  have c0 := h.c0
  unfold Gp.has
  clear h
  by_cases h0 : 0 ≤ i
  · by_cases h1 : i < (S.n : Int)
    · rw [decide_eq_true ⟨h0, h1⟩]
      go_enter Tryz.func30, Tryz.ntmps30
      go_wp2
      go_ret
      exact ⟨rfl, rfl⟩
    · rw [decide_eq_false (fun h => h1 h.2)]
      go_enter Tryz.func30, Tryz.ntmps30
      go_wp2
      go_ret
      exact ⟨rfl, rfl⟩
  · rw [decide_eq_false (fun h => h0 h.1)]
    go_enter Tryz.func30, Tryz.ntmps30
    go_wp2
    go_ret
    exact ⟨rfl, rfl⟩
/-- What Log answers is the log's own row. -/
def rlogV (S : Gp) (Q : Ql) (i : Int) : Value := if S.has i then Q.lr i.toNat else .slice none 0 0
theorem rlogV_owns {w : World} {r : Nat} {S : Gp} {Q : Ql} (h : RG w r S Q) (i : Int) : OwnsS w Q.B (rlogV S Q i) (logOf S i) := by
  unfold rlogV logOf
  cases hh : S.has i with
  | false => exact OwnsS.nil _ _
  | true => exact (h.nd _ (has_nat hh).2).log
set_option maxRecDepth 100000 in
set_option maxHeartbeats 1000000 in
theorem rlog_any {w : World} {r : Nat} {S : Gp} {Q : Ql} (h : RG w r S Q) (i : Int) :
    Calls Tryz.prog 17 #[.pointer (some ⟨r, 0, none⟩), .int .i64 i] w fun e w' => e = .returned (rlogV S Q i) ∧ w = w' := by
  have HH := Lib.hid (rhas_any h i)
  unfold rlogV
  cases hh : S.has i with
  | false =>
    rw [hh] at HH
    rw [if_neg (by decide)]
    clear h
    go_enter Tryz.func17, Tryz.ntmps17
    go_wp2_with (go_at_call 30; (with_reducible refine HH.out.mono ?_); rintro e w2 ⟨rfl, rfl⟩)
    go_ret
    exact ⟨rfl, rfl⟩
  | true =>
    rw [hh] at HH
    rw [if_pos rfl]
    obtain ⟨e1, e2⟩ := has_nat hh
    obtain ⟨hi0, hin⟩ := has_iff.1 hh
    generalize hk : i.toNat = k at *
    subst e1
    have c0 := h.c0
    have c1 := h.nodeAt e2
    have c2 := (h.nd k e2).c2
    clear h hh hk
    go_enter Tryz.func17, Tryz.ntmps17
    go_wp2_with (go_at_call 30; (with_reducible refine HH.out.mono ?_); rintro e w2 ⟨rfl, rfl⟩)
    go_ret
    exact ⟨rfl, rfl⟩
/-- A node's block has turned, its log and its acceptor have not. -/
theorem RG.flip {w w' : World} {r k : Nat} {S : Gp} {Q : Ql} {x' : Nd} (h : RG w r S Q) (hk : k < S.n) (hf : Fb (Q.nds k) w w') (hcs : w'.heap[Q.nds k]? = some (.cells (rnodeC Q k x') 69 (0, 0)))
    (hA : x'.A = (S.nd k).A) (hl : x'.log = (S.nd k).log) : RG w' r (S.set k x') Q ∧ RT S.n Q Q w w' := by
  have hN := h.nd k hk
  have hc : Chg (fun b _ => b = Q.nds k) w w' := Chg.of_fb hf (fun _ _ => rfl)
  have hkN : ∀ (b : Nat) (cs : Array Value) (t : TypeId) (f : Nat × Nat), t ≠ 69 → w.heap[b]? = some (Obj.cells cs t f) → w'.heap[b]? = some (Obj.cells cs t f) := fun b cs t f ht hb => hc.keep hb fun e => by
    have e' : b = Q.nds k := e
    rw [e', hN.cs] at hb
    injection hb with hb
    injection hb with _ h2
    exact ht h2.symm
  refine ⟨h.node hk hc ⟨hcs, ?_, ?_, ?_, hN.lo, hN.loA⟩ ⟨rfl, rfl, rfl, rfl, rfl, rfl⟩ (fun _ _ => rfl), ⟨Chg.of_fb hf (fun o hob => ?_), fun i hi b hb => .inl ⟨i, hi, hb⟩, rfl, rfl, rfl, rfl, rfl⟩⟩
  · rw [hA]
    refine hN.acc.keptTy fun b cs t f hb ht => hkN b cs t f ?_ hb
    have ht' : t = 67 ∨ t = 78 := by simpa using ht
    rcases ht' with e5 | e5 <;> (rw [e5]; decide)
  · rw [hA]; exact hN.good
  · rw [hl]
    refine hN.log.kept fun b hb => ?_
    obtain ⟨cur, h3⟩ := hN.log.ty hb
    rw [h3]; exact hkN _ _ _ _ (by decide) h3
  · rw [hN.cs] at hob
    injection hob with hob
    rw [← hob]
    exact ⟨hN.lo, by simp [isTy]⟩
set_option maxRecDepth 100000 in
set_option maxHeartbeats 1000000 in
theorem rset_any {w : World} {r : Nat} {S : Gp} {Q : Ql} (h : RG w r S Q) (i : Int) (u : Bool) :
    Calls Tryz.prog 27 #[.pointer (some ⟨r, 0, none⟩), .int .i64 i, .bool u] w fun e w' => e = .returned (.int .i64 (setE S i)) ∧ RG w' r (setS S i u) Q ∧ RT S.n Q Q w w' := by
  have HH := Lib.hid (rhas_any h i)
  unfold setE setS
  cases hh : S.has i with
  | false =>
    rw [hh] at HH
    rw [if_pos rfl, if_pos rfl]
    have HR := Lib.hid h
    clear h
    go_enter Tryz.func27, Tryz.ntmps27
    go_wp2_with (go_at_call 30; (with_reducible refine HH.out.mono ?_); rintro e w2 ⟨rfl, rfl⟩)
    go_ret
    exact ⟨rfl, HR.out, RT.of_below (Below.refl _ _)⟩
  | true =>
    rw [hh] at HH
    rw [if_neg (by decide), if_neg (by decide)]
    obtain ⟨e1, e2⟩ := has_nat hh
    obtain ⟨hi0, hin⟩ := has_iff.1 hh
    generalize hk : i.toNat = k at *
    subst e1
    have c0 := h.c0
    have c1 := h.nodeAt e2
    have hN := h.nd k e2
    have c2 := hN.c0
    have c3 := free_at hN.cs 0
    have HN := Lib.hid hN
    have HR := Lib.hid h
    clear h hh hk hN
    go_enter Tryz.func27, Tryz.ntmps27
    go_wp2_with (go_at_call 30; (with_reducible refine HH.out.mono ?_); rintro e w2 ⟨rfl, rfl⟩)
    go_ret
    exact ⟨rfl, HR.out.flip e2 (Fb.same.set 0 _) (heap_setCell HN.out.cs 0 (.bool u)) rfl rfl⟩
set_option maxRecDepth 100000 in
set_option maxHeartbeats 1000000 in
theorem bit_any {L i : Nat} (hi : i < 64) (w : World) :
    Calls Tryz.prog 47 #[.int .u64 (L : Int), .int .i64 (i : Int)] w fun e w' => e = .returned (.bool (L.testBit i)) ∧ w = w' := by
  go_enter Tryz.func47, Tryz.ntmps47
  go_wp2
  go_ret
  refine ⟨?_, rfl⟩
  congr 2
  rw [Nat.testBit_eq_decide_div_mod_eq]
  have e : ((L : Int) / 2 ^ i).tmod 2 = ((L / 2 ^ i % 2 : Nat) : Int) := by
    rw [show (L : Int) / 2 ^ i = ((L / 2 ^ i : Nat) : Int) by rw [Int.natCast_ediv, Int.natCast_pow]; rfl]
    exact (Int.ofNat_tmod _ 2).symm
  show Value.bool (((L : Int) / 2 ^ i).tmod 2 == 1) = _
  rw [e]
  by_cases h : L / 2 ^ i % 2 = 1
  · rw [h]; rfl
  · have h0 : L / 2 ^ i % 2 = 0 := by omega
    rw [h0]; rfl
set_option maxRecDepth 100000 in
set_option maxHeartbeats 1000000 in
theorem seen_any {w : World} {r k : Nat} {S : Gp} {Q : Ql} (h : RG w r S Q) (hk : k < S.n) (p : Int) :
    Calls Tryz.prog 49 #[.pointer (some ⟨Q.nds k, 0, none⟩), .int .i64 p] w fun e w' => e = .returned (.tuple #[]) ∧ RG w' r (S.setRd k (max (S.nd k).rd (ownR p))) Q ∧ RT S.n Q Q w w' := by
  have HO := Lib.hid (rown_any p w)
  have hN := h.nd k hk
  have c2 := hN.c3
  have c3 := free_at hN.cs 3
  have HN := Lib.hid hN
  have HR := Lib.hid h
  clear h hN
  go_enter Tryz.func49, Tryz.ntmps49
  go_wp2_with (go_at_call 70; (with_reducible refine HO.out.mono ?_); rintro e w2 ⟨rfl, rfl⟩)
  refine bodyPost_end (results_none rfl _ _ _) rfl ?_
  exact ⟨rfl, HR.out.flip hk (Fb.same.set 3 _) (heap_setCell HN.out.cs 3 _) rfl rfl⟩
end Go.Proofs.YtkcbmkedhipgeaaGreatDoor

namespace Go.Proofs.YtkcbmkedhipgeaaGreatDoor
open Go.RowKit Go.ChangeMaps

/-- One acceptor has turned. -/
theorem RG.acc {w w' : World} {r i : Nat} {S : Gp} {Q : Ql} {A' : Acc} (h : RG w r S Q) (hi : i < S.n) (hf : Fb (Q.ac i) w w') (hA : RC w' (Q.ac i) A'.p A'.l) (hg : A'.Good) :
    RG w' r (S.set i ((S.nd i).setA A')) Q ∧ RT S.n Q Q w w' := by
  have hNi := h.nd i hi
  obtain ⟨cs0, hc0⟩ := hNi.acc.ty
  have hc : Chg (fun b _ => b = Q.ac i) w w' := Chg.of_fb hf (fun _ _ => rfl)
  have hk : ∀ (k : Nat) (cs : Array Value) (t : TypeId) (f : Nat × Nat), t ≠ 67 → w.heap[k]? = some (Obj.cells cs t f) → w'.heap[k]? = some (Obj.cells cs t f) := fun k cs t f ht hk => hc.keep hk fun e => by
    have e' : k = Q.ac i := e
    rw [e', hc0] at hk
    injection hk with hk
    injection hk with _ h2
    exact ht h2.symm
  have hnd : ∀ j, (S.set i ((S.nd i).setA A')).nd j = if j = i then (S.nd i).setA A' else S.nd j := fun j => rfl
  obtain ⟨cs, h1, h2⟩ := h.row
  refine ⟨⟨hk _ _ _ _ (by decide) h.grp, ⟨cs, hk _ _ _ _ (by decide) h1, h2⟩, fun j hj => ?_, h.ndsNe, h.acNe, ?_, h.lo⟩, ⟨Chg.of_fb hf (fun o hob => ?_), fun j hj b hb => .inl ⟨j, hj, hb⟩, rfl, rfl, rfl, rfl, rfl⟩⟩
  · have hNj := h.nd j hj
    have hlog : OwnsS w' Q.B (Q.lr j) (S.nd j).log := hNj.log.kept fun b hb => by
      obtain ⟨cur, h3⟩ := hNj.log.ty hb
      rw [h3]; exact hk _ _ _ _ (by decide) h3
    rw [hnd]
    by_cases e : j = i
    · rw [if_pos e]
      subst e
      exact ⟨hk _ _ _ _ (by decide) hNj.cs, hA, hg, hlog, hNj.lo, hNj.loA⟩
    · rw [if_neg e]
      refine ⟨hk _ _ _ _ (by decide) hNj.cs, ?_, hNj.good, hlog, hNj.lo, hNj.loA⟩
      obtain ⟨sv, q1, q2⟩ := hNj.acc
      refine ⟨sv, q1.of_block ?_, q2.kept fun b hb => ?_⟩
      · obtain ⟨csj, hcj⟩ := hNj.acc.ty
        rw [hcj]; exact hc.keep hcj fun e' => h.acNe j i hj hi e e'
      · obtain ⟨cur, hc'⟩ := owns_type q2 hb
        rw [hc']; exact hk _ _ _ _ (by decide) hc'
  · refine ownsRow_kept h.all fun b hb => ?_
    obtain ⟨cur, hc'⟩ := owns_type h.all hb
    rw [hc']; exact hk _ _ _ _ (by decide) hc'
  · rw [hc0] at hob
    injection hob with hob
    rw [← hob]
    exact ⟨hNi.loA, by simp [isTy]⟩
/-- A vote is noted among all that were given. -/
theorem RG.noted {w w2 : World} {r i : Nat} {S : Gp} {Q : Ql} {v : Value} {u : V} {T : Int → Row} (h : RG w r S Q) (hgrow : w.grownBy w2 Q.al.ownBlock) (hown : OwnsD w2 Q.B v (S.all ++ [(i, u)])) :
    RG (w2.setCell ⟨r, 1, none⟩ v) r { S with all := S.all ++ [(i, u)], tab := T } { Q with al := v } ∧ RT S.n Q { Q with al := v } w (w2.setCell ⟨r, 1, none⟩ v) := by
  have hkA : ∀ (b : Nat) (cs : Array Value) (t : TypeId), t ≠ 80 → w.heap[b]? = some (Obj.cells cs t (0, 0)) → w2.heap[b]? = some (Obj.cells cs t (0, 0)) := fun b cs t ht hb => (hgrow.block b (lt_of hb) (fun e => by
    obtain ⟨cur, h3⟩ := owns_type h.all e.symm
    rw [hb] at h3
    injection h3 with h3
    injection h3 with _ h4
    exact ht h4)).trans hb
  have hg2 := hkA _ _ _ (by decide) h.grp
  have hk : ∀ (b : Nat) (cs : Array Value) (t : TypeId), t ≠ 80 → t ≠ 33 → w.heap[b]? = some (Obj.cells cs t (0, 0)) → (w2.setCell ⟨r, 1, none⟩ v).heap[b]? = some (Obj.cells cs t (0, 0)) := fun b cs t ht hq hb => by
    rw [Below.heap_setCell _ _ _ _ (fun e => by
      have e' : b = r := e
      rw [e', h.grp] at hb
      injection hb with hb
      injection hb with _ h4
      exact hq h4.symm)]
    exact hkA _ _ _ ht hb
  obtain ⟨cs, h1, h2⟩ := h.row
  have hgrp := heap_setCell hg2 1 v
  refine ⟨⟨hgrp, ⟨cs, hk _ _ _ (by decide) (by decide) h1, h2⟩, fun j hj => ?_, h.ndsNe, h.acNe, ?_, h.lo⟩, ⟨⟨hgrow.os, hgrow.tape, hgrow.output, by simpa [World.setCell] using hgrow.size, fun b o hb => ?_⟩, fun j hj b hb => .inl ⟨j, hj, hb⟩, rfl, rfl, rfl, rfl, rfl⟩⟩
  · have hNj := h.nd j hj
    refine ⟨hk _ _ _ (by decide) (by decide) hNj.cs, ?_, hNj.good, ?_, hNj.lo, hNj.loA⟩
    · obtain ⟨sv, q1, q2⟩ := hNj.acc
      refine ⟨sv, q1.of_block ?_, q2.kept fun b hb => ?_⟩
      · obtain ⟨csj, hcj⟩ := hNj.acc.ty
        rw [hcj]; exact hk _ _ _ (by decide) (by decide) hcj
      · obtain ⟨cur, hc'⟩ := owns_type q2 hb
        rw [hc']; exact hk _ _ _ (by decide) (by decide) hc'
    · refine hNj.log.kept fun b hb => ?_
      obtain ⟨cur, h3⟩ := hNj.log.ty hb
      rw [h3]; exact hk _ _ _ (by decide) (by decide) h3
  · refine ownsRow_kept hown fun b hb => ?_
    obtain ⟨cur, h3⟩ := owns_type hown hb
    exact Below.heap_setCell _ _ _ _ (fun e => by
      have e' : b = r := e
      rw [e', hg2] at h3
      injection h3 with h3
      injection h3 with _ h4
      exact absurd h4 (by decide))
  · by_cases e : b = r
    · left
      rw [e, h.grp] at hb
      injection hb with hb
      rw [e, ← hb]
      exact ⟨h.lo, by simp [isTy]⟩
    · by_cases e2 : Q.al.ownBlock = some b
      · left
        obtain ⟨cur, h3⟩ := owns_type h.all e2
        rw [h3] at hb
        injection hb with hb
        rw [← hb]
        exact ⟨(World.ownsRow.lt h.all b e2).1, by simp [isTy]⟩
      · right
        rw [Below.heap_setCell _ _ _ _ e]
        exact (hgrow.block b (lt_of hb) (fun e' => e2 e'.symm)).trans hb
/-- While a round goes: what was asked of whom, and the round of who asks. -/
def RS (b hi : Int) (k : Nat) (S : Gp) : Gp := S.setRd k (ownR (max b hi))
theorem gp_ext {S T : Gp} (h1 : S.n = T.n) (h2 : ∀ j, S.nd j = T.nd j) (h3 : S.all = T.all) (h4 : S.tab = T.tab) : S = T := by
  obtain ⟨n, nd, all, tab⟩ := S
  obtain ⟨n', nd', all', tab'⟩ := T
  simp only at h1 h2 h3 h4
  subst h1 h3 h4
  obtain rfl : nd = nd' := funext h2
  rfl
theorem setRd_nd (S : Gp) (k : Nat) (r : Int) (j : Nat) : (S.setRd k r).nd j = if j = k then { S.nd k with rd := r } else S.nd j := rfl
theorem set_nd (S : Gp) (i : Nat) (x : Nd) (j : Nat) : (S.set i x).nd j = if j = i then x else S.nd j := rfl
theorem set_setRd (S : Gp) (i k : Nat) (A : Acc) (r : Int) : (S.set i ((S.nd i).setA A)).setRd k r = (S.setRd k r).set i (((S.setRd k r).nd i).setA A) := by
  refine gp_ext rfl (fun j => ?_) rfl rfl
  rw [setRd_nd, set_nd, set_nd, set_nd, setRd_nd, setRd_nd]
  by_cases e1 : j = k
  · subst e1
    by_cases e2 : j = i
    · subst e2; simp [Nd.setA]
    · simp [e2]
  · by_cases e2 : j = i
    · subst e2; simp [e1]
    · simp [e1, e2]
theorem setRd_setRd (S : Gp) (k : Nat) (r s : Int) : (S.setRd k r).setRd k s = S.setRd k s := by
  refine gp_ext rfl (fun j => ?_) rfl rfl
  rw [setRd_nd, setRd_nd, setRd_nd, setRd_nd]
  by_cases e1 : j = k
  · simp [e1]
  · simp [e1]
theorem setRd_self (S : Gp) (k : Nat) (r : Int) (h : (S.nd k).rd = r) : S.setRd k r = S := by
  refine gp_ext rfl (fun j => ?_) rfl rfl
  rw [setRd_nd]
  by_cases e1 : j = k
  · subst e1; rw [if_pos rfl, ← h]
  · rw [if_neg e1]
theorem RS_nd (b hi : Int) (k : Nat) (S : Gp) (j : Nat) : ((RS b hi k S).nd j).A = (S.nd j).A ∧ ((RS b hi k S).nd j).up = (S.nd j).up ∧ ((RS b hi k S).nd j).log = (S.nd j).log := by
  unfold RS
  rw [setRd_nd]
  split
  · rename_i e; subst e; exact ⟨rfl, rfl, rfl⟩
  · exact ⟨rfl, rfl, rfl⟩
theorem RS_rd (b hi : Int) (k : Nat) (S : Gp) : ((RS b hi k S).nd k).rd = ownR (max b hi) := by
  unfold RS
  rw [setRd_nd, if_pos rfl]
theorem RS_prep (b hi : Int) (k : Nat) (S : Gp) (j : Nat) (A : Acc) : (RS b hi k S).set j (((RS b hi k S).nd j).setA A) = RS b hi k (S.set j ((S.nd j).setA A)) := (set_setRd S j k A _).symm
theorem ownR_max {a c : Int} (ha : 1 ≤ a) (ha1 : a ≤ 1099511627776) (hc : 0 ≤ c) (hc1 : c ≤ 1099511627776) : max (ownR a) (ownR c) = ownR (max a c) := by
  by_cases h : a ≤ c
  · have := ownR_mono h hc1 hc
    rw [show max a c = c by omega]; omega
  · have := ownR_mono (a := c) (b := a) (by omega) ha1 (by omega)
    rw [show max a c = a by omega]; omega
theorem RS_seen {b hi : Int} (k : Nat) (S : Gp) {p : Int} (hb : 1 ≤ b) (hb1 : b ≤ 1099511627776) (h0 : 0 ≤ hi) (h1 : hi ≤ 1099511627776) (p0 : 0 ≤ p) (p1 : p ≤ 1099511627776) :
    (RS b hi k S).setRd k (max ((RS b hi k S).nd k).rd (ownR p)) = RS b (max hi p) k S := by
  rw [RS_rd, ownR_max (by omega) (by omega) p0 p1]
  unfold RS
  rw [setRd_setRd]
  congr 2
  omega
end Go.Proofs.YtkcbmkedhipgeaaGreatDoor

namespace Go.Proofs.YtkcbmkedhipgeaaGreatDoor
open Go.RowKit Go.ChangeMaps

set_option maxRecDepth 100000 in
set_option maxHeartbeats 4000000 in
theorem rpro_wrong {w : World} {r : Nat} {S : Gp} {Q : Ql} (h : RG w r S Q) (i : Int) (x : ByteArray) (L : Nat) (hE : refE S i x ≠ 0) :
    Calls Tryz.prog 25 #[.pointer (some ⟨r, 0, none⟩), .int .i64 i, .string x, .int .u64 (L : Int)] w fun e w' => e = .returned (.tuple #[.int .i64 0, .string ⟨#[]⟩, .int .i64 (refE S i x)]) ∧ w = w' := by
  have HH := Lib.hid (rhas_any h i)
  cases hh : S.has i with
  | false =>
    rw [hh] at HH
    have e3 : refE S i x = 3 := by unfold refE; rw [if_pos hh]
    rw [e3]
    clear h hE e3
    go_enter Tryz.func25, Tryz.ntmps25
    go_wp2_with (go_at_call 30; (with_reducible refine HH.out.mono ?_); rintro e w2 ⟨rfl, rfl⟩)
    refine bodyPost_ret (results_tmp3 rfl _ _ _) rfl ?_
    exact ⟨rfl, rfl⟩
  | true =>
    rw [hh] at HH
    obtain ⟨e1, e2⟩ := has_nat hh
    obtain ⟨hi0, hin⟩ := has_iff.1 hh
    have hre : refE S i x = if (S.nd i.toNat).up = false then 70 else if 1024 < x.size then 11 else if 4096 ≤ (S.nd i.toNat).log.length then 2 else numR (S.nd i.toNat).rd i := by
      unfold refE; rw [if_neg (by rw [hh]; decide)]
    generalize hk : i.toNat = k at *
    subst e1
    have c0 := h.c0
    have c1 := h.nodeAt e2
    have hN := h.nd k e2
    have d0 := hN.c0
    have d2 := hN.c2
    have d3 := hN.c3
    obtain ⟨Al, cl, hlv, -⟩ := hN.log.form
    rw [hlv] at d2
    have HNb := Lib.hid (rnumb_any (S.nd k).rd (k : Int) w)
    by_cases hu : (S.nd k).up = true
    · rw [hu] at d0
      rw [if_neg (by rw [hu]; decide)] at hre
      by_cases hx : 1024 < x.size
      · rw [if_pos hx] at hre
        rw [hre]
        have hxI : 1024 < (x.size : Int) := by omega
        clear h hN hE hre hh hk hlv hu
        go_enter Tryz.func25, Tryz.ntmps25
        go_wp2_with (go_at_call 30; (with_reducible refine HH.out.mono ?_); rintro e w2 ⟨rfl, rfl⟩)
        refine bodyPost_ret (results_tmp3 rfl _ _ _) rfl ?_
        exact ⟨rfl, rfl⟩
      · rw [if_neg hx] at hre
        have hxI : ¬ 1024 < (x.size : Int) := by omega
        by_cases hl : 4096 ≤ (S.nd k).log.length
        · rw [if_pos hl] at hre
          rw [hre]
          have hlI : (4096 : Int) ≤ ((S.nd k).log.length : Int) := by omega
          clear h hN hE hre hh hk hlv hu
          go_enter Tryz.func25, Tryz.ntmps25
          go_wp2_with (go_at_call 30; (with_reducible refine HH.out.mono ?_); rintro e w2 ⟨rfl, rfl⟩)
          refine bodyPost_ret (results_tmp3 rfl _ _ _) rfl ?_
          exact ⟨rfl, rfl⟩
        · rw [if_neg hl] at hre
          rw [hre] at hE ⊢
          have hlI : ¬ (4096 : Int) ≤ ((S.nd k).log.length : Int) := by omega
          generalize numR (S.nd k).rd (k : Int) = z at HNb hE ⊢
          clear h hN hre hh hk hlv hu
          go_enter Tryz.func25, Tryz.ntmps25
          go_wp2_with (first
            | (go_at_call 30; (with_reducible refine HH.out.mono ?_); rintro e w2 ⟨rfl, rfl⟩)
            | (go_at_call 46; (with_reducible refine HNb.out.mono ?_); rintro e w2 ⟨rfl, rfl⟩)
            | fail)
          refine bodyPost_ret (results_tmp3 rfl _ _ _) rfl ?_
          exact ⟨rfl, rfl⟩
    · have hu' : (S.nd k).up = false := by simpa using hu
      rw [hu'] at d0
      rw [if_pos hu'] at hre
      rw [hre]
      clear h hN hE hre hh hk hlv hu
      go_enter Tryz.func25, Tryz.ntmps25
      go_wp2_with (go_at_call 30; (with_reducible refine HH.out.mono ?_); rintro e w2 ⟨rfl, rfl⟩)
      refine bodyPost_ret (results_tmp3 rfl _ _ _) rfl ?_
      exact ⟨rfl, rfl⟩
end Go.Proofs.YtkcbmkedhipgeaaGreatDoor
