/-
  New of the document's own (weirkeepref11), by a contract.

  Chosen of the document's own (weirkeepref11), by a contract.
-/
import Derived.Test.YtkcbmkedhipgeaaGreatDoorRq6
import Derived.Test.YtkcbmkedhipgeaaGreatDoorPq11
namespace Go.Proofs.YtkcbmkedhipgeaaGreatDoor
open Go.RowKit Go.ChangeMaps

theorem infoRn : (Tryz.prog.info? 63).map (fun i => (i.zero, i.size, i.bytes)) = some (some (.pointer none), 1, 8) := by kernel_rfl
theorem RC.fresh11 (w : World) : RC (w.alloc (.cells #[.int .i64 0, .slice none 0 0] 67)) w.heap.size Acc.new.p Acc.new.l :=
  ⟨.slice none 0 0, World.rowIs_alloc w _ _ _ (fun q hq => by match q, hq with | 0, _ | 1, _ => rfl), World.ownsRow_nil _ _ _ _⟩
def rnewC (a : Nat) : Array Value := #[.bool true, .pointer (some ⟨a, 0, none⟩), .slice none 0 0, .int .i64 0]
/-- A group of so many nodes so far. -/
structure NR (w : World) (B gb j : Nat) (v : Value) (nds ac : Nat → Nat) : Prop where
  grp : w.heap[gb]? = some (.cells #[v, .slice none 0 0] 33 (0, 0))
  row : w.ownsRow B 63 1 v j (ptrs nds j)
  cs : ∀ i, i < j → w.heap[nds i]? = some (.cells (rnewC (ac i)) 69 (0, 0))
  acc : ∀ i, i < j → RC w (ac i) Acc.new.p Acc.new.l
  lo : ∀ i, i < j → B ≤ nds i ∧ B ≤ ac i
  ne : ∀ i k, i < j → k < j → i ≠ k → nds i ≠ nds k ∧ ac i ≠ ac k
theorem NR.keep {w w' : World} {B gb j : Nat} {v : Value} {nds ac : Nat → Nat} (h : NR w B gb j v nds ac) (hb : Below w.heap.size w w') : NR w' B gb j v nds ac := by
  have hk : ∀ (b : Nat) (o : Obj), w.heap[b]? = some o → w'.heap[b]? = some o := fun b o ho => (hb.block b (lt_of ho)).trans ho
  exact ⟨hk _ _ h.grp, ownsRow_kept h.row fun g hg => hb.block g (World.ownsRow.lt h.row g hg).2, fun i hi => hk _ _ (h.cs i hi), fun i hi => (h.acc i hi).keptTy fun b cs t f ho _ => hk _ _ ho, h.lo, h.ne⟩
theorem NR.more {w wz w3 : World} {B gb j a g cap Z : Nat} {v : Value} {nds ac : Nat → Nat} (h : NR w B gb j v nds ac) (hb : Below w.heap.size w wz) (ha : RC wz a Acc.new.p Acc.new.l) (hal : w.heap.size ≤ a) (hB : B ≤ w.heap.size) (hZ : wz.heap.size = Z)
    (hg : ((wz.alloc (.cells (rnewC a) 69 (0, 0))).alloc (.cells #[.pointer (some ⟨Z, 0, none⟩)] 63)).grownBy w3 v.ownBlock)
    (hown : w3.ownsRow B 63 1 (.slice (some ⟨g, 0, none⟩) (j + 1) cap) (j + 1) (ptrs nds j ++ [.pointer (some ⟨Z, 0, none⟩)])) :
    NR (w3.setCell ⟨gb, 0, none⟩ (.slice (some ⟨g, 0, none⟩) (j + 1) cap)) B gb (j + 1) (.slice (some ⟨g, 0, none⟩) (j + 1) cap) (at1 nds j Z) (at1 ac j a) := by
  subst hZ
  have hN := heap_alloc_new wz (.cells (rnewC a) 69 (0, 0))
  have hz := h.keep hb
  have hb1 : Below wz.heap.size wz (wz.alloc (.cells (rnewC a) 69 (0, 0))) := (Below.refl _ wz).alloc (Nat.le_refl _) _
  have hb2 : Below (wz.alloc (.cells (rnewC a) 69 (0, 0))).heap.size (wz.alloc (.cells (rnewC a) 69 (0, 0))) ((wz.alloc (.cells (rnewC a) 69 (0, 0))).alloc (.cells #[.pointer (some ⟨wz.heap.size, 0, none⟩)] 63)) := (Below.refl _ _).alloc (Nat.le_refl _) _
  have hN2 := (hb2.block _ (lt_of hN)).trans hN
  have hz1 := (hz.keep hb1).keep hb2
  have ha2 : RC ((wz.alloc (.cells (rnewC a) 69 (0, 0))).alloc (.cells #[.pointer (some ⟨wz.heap.size, 0, none⟩)] 63)) a Acc.new.p Acc.new.l := ha.keptTy fun b cs t f ho _ => (hb2.block _ (Nat.lt_of_lt_of_le (lt_of ho) hb1.size)).trans ((hb1.block _ (lt_of ho)).trans ho)
  have hsz : wz.heap.size < ((wz.alloc (.cells (rnewC a) 69 (0, 0))).alloc (.cells #[.pointer (some ⟨wz.heap.size, 0, none⟩)] 63)).heap.size := by simp; omega
  generalize ((wz.alloc (.cells (rnewC a) 69 (0, 0))).alloc (.cells #[.pointer (some ⟨wz.heap.size, 0, none⟩)] 63)) = w2 at *
  have hk : ∀ (b : Nat) (cs : Array Value) (t : TypeId) (f : Nat × Nat), t ≠ 63 → w2.heap[b]? = some (Obj.cells cs t f) → w3.heap[b]? = some (Obj.cells cs t f) := fun b cs t f ht hbb => (hg.block b (lt_of hbb) (fun e => by
    obtain ⟨cur, h3⟩ := owns_type hz1.row e.symm
    rw [hbb] at h3
    injection h3 with h3
    injection h3 with _ h4
    exact ht h4)).trans hbb
  have hg3 := hk _ _ _ _ (by decide) hz1.grp
  have hgrp := heap_setCell hg3 0 (.slice (some ⟨g, 0, none⟩) (j + 1) cap)
  have hkA : ∀ (b : Nat) (cs : Array Value) (t : TypeId) (f : Nat × Nat), t ≠ 63 → t ≠ 33 → w2.heap[b]? = some (Obj.cells cs t f) → (w3.setCell ⟨gb, 0, none⟩ (.slice (some ⟨g, 0, none⟩) (j + 1) cap)).heap[b]? = some (Obj.cells cs t f) := fun b cs t f ht hq ho => by
    rw [Below.heap_setCell _ _ _ _ (fun e => by
      have e' : b = gb := e
      rw [e', hz1.grp] at ho
      injection ho with ho
      injection ho with _ h4
      exact hq h4.symm)]
    exact hk _ _ _ _ ht ho
  have hPA : ∀ i, RC w2 i Acc.new.p Acc.new.l → RC (w3.setCell ⟨gb, 0, none⟩ (.slice (some ⟨g, 0, none⟩) (j + 1) cap)) i Acc.new.p Acc.new.l := fun i hi => hi.keptTy fun b cs t f ho ht => by
    have ht' : t = 67 ∨ t = 78 := by simpa using ht
    rcases ht' with e | e
    · subst e; exact hkA b cs _ f (by decide) (by decide) ho
    · subst e; exact hkA b cs _ f (by decide) (by decide) ho
  have hlt : ∀ i, i < j → nds i < w.heap.size ∧ ac i < w.heap.size := fun i hi => ⟨lt_of (h.cs i hi), (h.acc i hi).lt⟩
  refine ⟨hgrp, ?_, fun i hi => ?_, fun i hi => ?_, fun i hi => ?_, fun i k hi hk' hne => ?_⟩
  · rw [← ptrs_more]
    refine ownsRow_kept hown fun b hb => ?_
    obtain ⟨cur, h3⟩ := owns_type hown hb
    rw [Below.heap_setCell _ _ _ _ (fun e => by
      have e' : b = gb := e
      rw [e', hg3] at h3
      injection h3 with h3
      injection h3 with _ h4
      exact absurd h4 (by decide))]
  · by_cases e : i = j
    · subst e
      rw [at1_same, at1_same]
      exact hkA _ _ _ _ (by decide) (by decide) hN2
    · rw [at1_other _ _ e, at1_other _ _ e]
      exact hkA _ _ _ _ (by decide) (by decide) (hz1.cs i (by omega))
  · by_cases e : i = j
    · subst e; rw [at1_same]; exact hPA _ ha2
    · rw [at1_other _ _ e]; exact hPA _ (hz1.acc i (by omega))
  · by_cases e : i = j
    · subst e; rw [at1_same, at1_same]; exact ⟨Nat.le_trans hB hb.size, Nat.le_trans hB hal⟩
    · rw [at1_other _ _ e, at1_other _ _ e]; exact h.lo i (by omega)
  · have := hb.size
    by_cases e : i = j
    · subst e
      have := hlt k (by omega)
      rw [at1_same, at1_same, at1_other _ _ (Ne.symm hne), at1_other _ _ (Ne.symm hne)]
      exact ⟨by omega, by omega⟩
    · by_cases e' : k = j
      · subst e'
        have := hlt i (by omega)
        rw [at1_same, at1_same, at1_other _ _ e, at1_other _ _ e]
        exact ⟨by omega, by omega⟩
      · rw [at1_other _ _ e, at1_other _ _ e', at1_other _ _ e, at1_other _ _ e']
        exact h.ne i k (by omega) (by omega) hne
theorem NR.grpAt {w wz w3 : World} {B gb j a Z : Nat} {v : Value} {nds ac : Nat → Nat} (h : NR w B gb j v nds ac) (hb : Below w.heap.size w wz) (hZ : wz.heap.size = Z)
    (hg : ((wz.alloc (.cells (rnewC a) 69 (0, 0))).alloc (.cells #[.pointer (some ⟨Z, 0, none⟩)] 63)).grownBy w3 v.ownBlock) : w3.cell? ⟨gb, 0, none⟩ = some v ∧ w3.frozen? ⟨gb, 0, none⟩ = false := by
  subst hZ
  have hz := h.keep hb
  have hb1 : Below wz.heap.size wz ((wz.alloc (.cells (rnewC a) 69 (0, 0))).alloc (.cells #[.pointer (some ⟨wz.heap.size, 0, none⟩)] 63)) := ((Below.refl _ wz).alloc (Nat.le_refl _) _).alloc (by simp) _
  have hz1 := hz.keep hb1
  generalize ((wz.alloc (.cells (rnewC a) 69 (0, 0))).alloc (.cells #[.pointer (some ⟨wz.heap.size, 0, none⟩)] 63)) = w2 at *
  have hg3 := (hg.block gb (lt_of hz1.grp) (fun e => by
    obtain ⟨cur, h3⟩ := owns_type hz1.row e.symm
    rw [hz1.grp] at h3
    injection h3 with h3
    injection h3 with _ h4
    exact absurd h4 (by decide))).trans hz1.grp
  exact ⟨by rw [cell_at hg3]; rfl, free_at hg3 0⟩
theorem NR.cellAt {w : World} {B gb j : Nat} {v : Value} {nds ac : Nat → Nat} (h : NR w B gb j v nds ac) : w.cell? ⟨gb, 0, none⟩ = some v := by rw [cell_at h.grp]; rfl
theorem NR.done {w : World} {B gb n : Nat} {v : Value} {nds ac : Nat → Nat} (h : NR w B gb n v nds ac) (hn : 0 < n) (hm : B ≤ gb) : ∃ Q, RG w gb (Gp.start n) Q ∧ Q.B = B := by
  rcases h.row.2 with ⟨_, h0⟩ | ⟨g, cap, cur, hv, hbg, hgg, _, _, hs, ht⟩
  · omega
  · have hgrp := h.grp
    rw [hv] at hgrp
    refine ⟨⟨B, g, cap, nds, ac, fun _ => .slice none 0 0, .slice none 0 0⟩, ⟨hgrp, ⟨cur, hgg, fun i hi => ?_⟩, fun i hi => ⟨h.cs i hi, h.acc i hi, Acc.Good.new, OwnsS.nil _ _, (h.lo i hi).1, (h.lo i hi).2⟩, fun i j hi hj hne => (h.ne i j hi hj hne).1, fun i j hi hj hne => (h.ne i j hi hj hne).2, World.ownsRow_nil _ _ _ _, hm⟩, rfl⟩
    have hc := h.row.cells (g := g) (by rw [hv]; rfl) i (.pointer (some ⟨nds i, 0, none⟩)) (by
      have hi' : i < n := hi
      simp [ptrs, hi'])
    have hadd : (⟨g, 0, none⟩ : Addr).add i = ⟨g, i, none⟩ := by unfold Addr.add; split <;> simp_all
    rw [hadd, cell_at hgg] at hc
    exact hc
set_option maxRecDepth 100000 in
set_option maxHeartbeats 4000000 in
theorem rnew11_any (n : Int) (m : Nat) (w : World) (hm : max 1 (min n 5) = (m : Int)) (h0 : 0 < m) (h5 : m ≤ 5) :
    Calls Tryz.prog 12 #[.int .i64 n] w fun e w' => ∃ r Q, e = .returned (.pointer (some ⟨r, 0, none⟩)) ∧ RG w' r (Gp.start m) Q ∧ Q.B = w.heap.size ∧ Below w.heap.size w w' := by
  obtain ⟨i0, hi0, hz0, hz1, hz2⟩ := info_parts infoRn
  have hb0 : Below w.heap.size w (w.alloc (.cells #[.slice none 0 0, .slice none 0 0] 33 (0, 0))) := (Below.refl _ _).alloc (Nat.le_refl _) _
  have HB0 := Lib.hid hb0
  have hg0 : NR (w.alloc (.cells #[.slice none 0 0, .slice none 0 0] 33 (0, 0))) w.heap.size w.heap.size 0 (.slice none 0 0) (fun _ => 0) (fun _ => 0) :=
    ⟨heap_alloc_new w _, World.ownsRow_nil _ _ _ _, fun i hi => by omega, fun i hi => by omega, fun i hi => by omega, fun i k hi => by omega⟩
  have HG0 := Lib.hid hg0
  have HM := Lib.hid hm
  clear hb0 hg0 hm
  go_enter Tryz.func12, Tryz.ntmps12
  go_wp2
  go_loopw [4] (fun jv wr => ∃ (j : Nat) (v : Value) (nds ac : Nat → Nat), j ≤ m ∧ jv = .int .i64 j ∧ NR wr w.heap.size w.heap.size j v nds ac ∧ Below w.heap.size w wr) (fun jv _ => m - (intOf jv).toNat)
  case atStart => exact ⟨0, _, _, _, Nat.zero_le _, rfl, HG0.out, HB0.out⟩
  case round =>
    obtain ⟨j, v, nds, ac, hj, rfl, hP, hK⟩ := hrel
    by_cases hlt : j < m
    · have cd : wr.cell? ⟨w.heap.size, 0, none⟩ = some v := hP.cellAt
      have PD := Lib.hid hP
      have KD := Lib.hid hK
      have hlI : (j : Int) < max 1 (min n 5) := by rw [HM.out]; omega
      clear hP hK HG0 HB0
      have hba : Below wr.heap.size wr (wr.alloc (.cells #[.int .i64 0, .slice none 0 0] 67)) := (Below.refl _ _).alloc (Nat.le_refl _) _
      have hZ : (wr.alloc (.cells #[.int .i64 0, .slice none 0 0] 67)).heap.size = wr.heap.size + 1 := by simp
      have hbc : Below wr.heap.size wr (((wr.alloc (.cells #[.int .i64 0, .slice none 0 0] 67)).alloc (.cells #[.bool true, .pointer (some ⟨wr.heap.size, 0, none⟩), .slice none 0 0, .int .i64 0] 69 (0, 0))).alloc (.cells #[.pointer (some ⟨wr.heap.size + 1, 0, none⟩)] 63)) := (hba.alloc (by simp) _).alloc (by simp; omega) _
      have hnw := heap_alloc_new ((wr.alloc (.cells #[.int .i64 0, .slice none 0 0] 67)).alloc (.cells #[.bool true, .pointer (some ⟨wr.heap.size, 0, none⟩), .slice none 0 0, .int .i64 0] 69 (0, 0))) (.cells #[.pointer (some ⟨wr.heap.size + 1, 0, none⟩)] 63)
      have hnz : ((wr.alloc (.cells #[.int .i64 0, .slice none 0 0] 67)).alloc (.cells #[.bool true, .pointer (some ⟨wr.heap.size, 0, none⟩), .slice none 0 0, .int .i64 0] 69 (0, 0))).heap.size = wr.heap.size + 1 + 1 := by simp
      rw [hnz] at hnw
      have HRow := Lib.hid (PD.out.keep hbc).row
      have HNw := Lib.hid (World.news_of_block hnw)
      have HBA := Lib.hid hba
      have HBC := Lib.hid hbc
      have HZ := Lib.hid hZ
      clear hba hbc hnw hnz hZ
      go_wp2_with (at_builtin; refine wpList_append_lies _ rfl (.tmp 18) (.tmp 23) 30 rfl w.heap.size 63 i0 _ 1 8 Tryz.underlying30 hi0 hz0 hz1 hz2 rfl (by decide) v j (ptrs nds j) rfl HRow.out ⟨wr.heap.size + 1 + 1, 0, none⟩ 1 1 [.pointer (some ⟨wr.heap.size + 1, 0, none⟩)] rfl rfl HNw.out (by intro x hx; obtain rfl := List.mem_singleton.1 hx; rfl) (by decide) (by unfold maxLen; omega) (by omega) (by have := KD.out.size; simp; omega) (wr.heap.size + 1 + 1 + 1) (by simp) ?_; intro g cap w3 hown hgrow _ _; (have hg3 := PD.out.more HBA.out (RC.fresh11 wr) (Nat.le_refl _) KD.out.size HZ.out hgrow hown); (obtain ⟨hcg1, hcg2⟩ := PD.out.grpAt HBA.out HZ.out hgrow); have HG3 := Lib.hid hg3; have HGr := Lib.hid hgrow; clear hg3 hgrow hown)
      go_roundw
      case rel =>
        exact ⟨j + 1, _, _, _, by omega, by go_num, HG3.out, ((KD.out.trans (HBC.out.mono KD.out.size)).grown HGr.out (by have := KD.out.size; simp; omega) (fun k hk => (World.ownsRow.lt PD.out.row k hk).1)) |>.setCell (p := ⟨w.heap.size, 0, none⟩) (Nat.le_refl _) _⟩
      case measure => simp [intOf]; omega
    · obtain rfl : j = m := by omega
      have HPj := Lib.hid hP
      have HKj := Lib.hid hK
      have hlI : ¬ ((j : Int) < max 1 (min n 5)) := by rw [HM.out]; omega
      clear hP hK HG0 HB0
      go_wp2
      go_ret
      obtain ⟨Q, hp, hB⟩ := HPj.out.done h0 (Nat.le_refl _)
      exact ⟨_, rfl, Q, hp, hB, HKj.out⟩
end Go.Proofs.YtkcbmkedhipgeaaGreatDoor

namespace Go.Proofs.YtkcbmkedhipgeaaGreatDoor
open Go.RowKit Go.ChangeMaps

/-- Did node k vote for v, as far as the first j votes tell? -/
def didJ (all : List (Nat × V)) (k : Nat) (v : V) (j : Nat) : Bool := (all.take j).any fun d => decide (d = (k, v))
theorem didJ_succ {all : List (Nat × V)} {k : Nat} {v : V} {j : Nat} {d : Nat × V} (h : all[j]? = some d) : didJ all k v (j + 1) = (didJ all k v j || decide (d = (k, v))) := by
  unfold didJ
  rw [List.take_add_one, h]
  simp
theorem didJ_all (all : List (Nat × V)) (k : Nat) (v : V) : didJ all k v all.length = votB all v k := by
  unfold didJ votB
  rw [List.take_length]
  apply Bool.eq_iff_iff.2
  rw [List.any_eq_true, decide_eq_true_eq]
  constructor
  · rintro ⟨d, hd, e⟩
    rw [← of_decide_eq_true e]; exact hd
  · intro h
    exact ⟨_, h, decide_eq_true rfl⟩
/-- What stands at i. -/
theorem OwnsD.at {w : World} {base : Nat} {A : Option Addr} {n c : Nat} {l : List (Nat × V)} (h : OwnsD w base (.slice A n c) l) {i : Nat} {d : Nat × V} (hi : l[i]? = some d) :
    ∃ g, A = some ⟨g, 0, none⟩ ∧ g < w.heap.size ∧ w.cell? ⟨g, i * 4, none⟩ = some (.int .i64 (d.1 : Int)) ∧ w.cell? ⟨g, i * 4 + 1, none⟩ = some (.int .i64 d.2.s) ∧ w.cell? ⟨g, i * 4 + 1 + 1, none⟩ = some (.int .i64 d.2.b) ∧ w.cell? ⟨g, i * 4 + 1 + 2, none⟩ = some (.string d.2.x) := by
  obtain ⟨A', c', hv, hg⟩ := h.form
  simp only [Value.slice.injEq] at hv
  obtain ⟨rfl, -, -⟩ := hv
  obtain ⟨g, h1, h2, h3⟩ := hg i d hi
  exact ⟨g, h1, h2, h3 0 (by omega), h3 1 (by omega), h3 2 (by omega), h3 3 (by omega)⟩
set_option maxRecDepth 100000 in
set_option maxHeartbeats 4000000 in
theorem rcho_any {w : World} {r : Nat} {S : Gp} {Q : Ql} {f : Nat → Int} (h : RG w r S Q) (hI : Inv S f) (hal : S.all.length ≤ 100000) (s : Int) :
    Calls Tryz.prog 19 #[.pointer (some ⟨r, 0, none⟩), .int .i64 s] w fun e w' => e = .returned (.tuple #[.string (choOf S s).1, .bool (choOf S s).2]) ∧ Below w.heap.size w w' := by
  have HR := Lib.hid h
  have HI := Lib.hid hI
  have hn5 := hI.n5
  obtain ⟨Ad, cd, hald, -⟩ := OwnsD.form h.all
  have HAl := Lib.hid hald
  have HD := Lib.hid (show ∀ w', Below w.heap.size w w' → OwnsD w' Q.B (.slice Ad S.all.length cd) S.all from fun w' hb => by
    have h5 := (HR.out.below hb).all
    rw [HAl.out] at h5
    exact h5)
  have HC0 := Lib.hid (show ∀ w', Below w.heap.size w w' → w'.cell? ⟨r, 0, none⟩ = some (.slice (some ⟨Q.nb, 0, none⟩) S.n Q.cap) from fun w' hb => (HR.out.below hb).c0)
  have HC1 := Lib.hid (show ∀ w', Below w.heap.size w w' → w'.cell? ⟨r, 1, none⟩ = some (.slice Ad S.all.length cd) from fun w' hb => by
    have h5 := (HR.out.below hb).c1
    rw [HAl.out] at h5
    exact h5)
  clear h hI hald HR HAl
  go_enter Tryz.func19, Tryz.ntmps19
  go_wp2
  go_loopw [6] (fun iv wr => ∃ i : Nat, i ≤ S.all.length ∧ iv = .int .i64 i ∧ (∀ m d, m < i → S.all[m]? = some d → d.2.s = s → ¬ Maj S.n S.all d.2) ∧ Below w.heap.size w wr) (fun iv _ => S.all.length - (RowKit.intOf iv).toNat)
  case atStart => exact ⟨0, Nat.zero_le _, rfl, fun m d hm => absurd hm (Nat.not_lt_zero _), Below.refl _ _⟩
  case round =>
    obtain ⟨i, hi, rfl, hno, hb⟩ := hrel
    have c1 := HC1.out wr hb
    have HNo := Lib.hid hno
    have HB := Lib.hid hb
    clear hno hb
    by_cases hlt : i < S.all.length
    · have hiI : (i : Int) < (S.all.length : Int) := by omega
      have hi0 : (0 : Int) ≤ (i : Int) := by omega
      obtain ⟨⟨di, vs, vb, vx⟩, hd⟩ : ∃ d, S.all[i]? = some d := ⟨_, List.getElem?_eq_getElem hlt⟩
      obtain ⟨g, rfl, hg, q0, q1, q2, q3⟩ := (HD.out wr HB.out).at hd
      have Hd := Lib.hid hd
      clear hd
      by_cases hs : vs = s
      · subst hs
        go_wp2_with fail
        have hb7 : Below w.heap.size w (wr.alloc (.cells #[.int .i64 vs, .int .i64 vb, .string vx] 78)) := HB.out.alloc HB.out.size _
        have hv7 := heap_alloc_new wr (.cells #[.int .i64 vs, .int .i64 vb, .string vx] 78)
        have hZ : wr.heap.size < (wr.alloc (.cells #[.int .i64 vs, .int .i64 vb, .string vx] 78)).heap.size := lt_of hv7
        generalize wr.alloc (.cells #[.int .i64 vs, .int .i64 vb, .string vx] 78) = w7 at hb7 hv7 hZ ⊢
        generalize wr.heap.size = Z at hv7 hZ ⊢
        have HB7 := Lib.hid hb7
        have HV := Lib.hid (show ∀ w', Below w7.heap.size w7 w' → w'.heap[Z]? = some (.cells #[.int .i64 vs, .int .i64 vb, .string vx] 78 (0, 0)) from fun w' hb => (hb.block _ hZ).trans hv7)
        have HT := Lib.hid (show ∀ w', Below w7.heap.size w7 w' → Below w.heap.size w w' from fun w' hb => hb7.trans (hb.mono hb7.size))
        clear hb7 hv7 c1 q0 q1 q2 q3
        go_loopw [8, 9] (fun mv kv wk => ∃ k : Nat, k ≤ S.n ∧ kv = .int .i64 k ∧ mv = .int .i64 (cntP k (votB S.all ⟨vs, vb, vx⟩) : Nat) ∧ Below w7.heap.size w7 wk) (fun mv kv _ => S.n - (RowKit.intOf kv).toNat)
        case atStart => exact ⟨0, Nat.zero_le _, rfl, rfl, Below.refl _ _⟩
        case round =>
          obtain ⟨k, hk, rfl, rfl, hbk⟩ := hrel
          have c0 := HC0.out _ (HT.out _ hbk)
          have hcn := cntP_le k (votB S.all ⟨vs, vb, vx⟩)
          have HBk := Lib.hid hbk
          clear hbk
          by_cases hkn : k < S.n
          · have hkI : (k : Int) < (S.n : Int) := by omega
            go_wp2_with fail
            go_loopw [10, 11] (fun dv jv wj => ∃ j : Nat, j ≤ S.all.length ∧ jv = .int .i64 j ∧ dv = .bool (didJ S.all k ⟨vs, vb, vx⟩ j) ∧ Below w7.heap.size w7 wj) (fun dv jv _ => S.all.length - (RowKit.intOf jv).toNat)
            case atStart => exact ⟨0, Nat.zero_le _, rfl, rfl, HBk.out⟩
            case round =>
              obtain ⟨j, hj, rfl, rfl, hbj⟩ := hrel
              have c1 := HC1.out _ (HT.out _ hbj)
              have HBj := Lib.hid hbj
              clear hbj c0
              by_cases hjn : j < S.all.length
              · have hjI : (j : Int) < (S.all.length : Int) := by omega
                have hj0 : (0 : Int) ≤ (j : Int) := by omega
                obtain ⟨⟨ei, es, eb, ex⟩, he⟩ : ∃ d, S.all[j]? = some d := ⟨_, List.getElem?_eq_getElem hjn⟩
                obtain ⟨g', hA, hg', q0, q1, q2, q3⟩ := (HD.out _ (HT.out _ HBj.out)).at he
                simp only [Option.some.injEq, Addr.mk.injEq, and_true] at hA
                subst hA
                have hv := HV.out _ HBj.out
                have x0 : wr.cell? ⟨Z, 0, none⟩ = some (.int .i64 vs) := by rw [cell_at hv]; rfl
                have x1 : wr.cell? ⟨Z, 1, none⟩ = some (.int .i64 vb) := by rw [cell_at hv]; rfl
                have x2 : wr.cell? ⟨Z, 2, none⟩ = some (.string vx) := by rw [cell_at hv]; rfl
                have hst := didJ_succ (k := k) (v := ⟨vs, vb, vx⟩) he
                have heq := rv_eq ⟨es, eb, ex⟩ ⟨vs, vb, vx⟩
                cases hd : didJ S.all k ⟨vs, vb, vx⟩ j with
                | true =>
                  rw [hd, Bool.true_or] at hst
                  have HSt := Lib.hid hst
                  clear hst he hv
                  go_wp2_with fail
                  go_quiet (fail)
                  go_wp2
                  go_roundw
                  case rel => exact ⟨j + 1, by omega, by go_num, by rw [HSt.out], below_drewN HBj.out _⟩
                  case measure => simp only [RowKit.intOf]; omega
                | false =>
                  rw [hd, Bool.false_or] at hst
                  by_cases hek : ei = k
                  · subst hek
                    have hki : ((ei : Int) == (ei : Int)) = true := by simp
                    rw [show decide ((ei, (⟨es, eb, ex⟩ : V)) = (ei, ⟨vs, vb, vx⟩)) = decide ((⟨es, eb, ex⟩ : V) = ⟨vs, vb, vx⟩) by simp only [Prod.mk.injEq, true_and]] at hst
                    have HSt := Lib.hid hst
                    clear hst he hv
                    go_wp2_with fail
                    go_quiet (fail)
                    go_wp2
                    go_roundw
                    case rel => exact ⟨j + 1, by omega, by go_num, by rw [HSt.out]; simp only [V.mk.injEq, Bool.decide_and], below_drewN HBj.out _⟩
                    case measure => simp only [RowKit.intOf]; omega
                  · have hki : ((ei : Int) == (k : Int)) = false := by simp; omega
                    rw [show decide ((ei, (⟨es, eb, ex⟩ : V)) = (k, ⟨vs, vb, vx⟩)) = false from decide_eq_false fun e => hek (congrArg Prod.fst e)] at hst
                    have HSt := Lib.hid hst
                    clear hst he hv
                    go_wp2_with fail
                    go_quiet (fail)
                    go_wp2
                    go_roundw
                    case rel => exact ⟨j + 1, by omega, by go_num, by rw [HSt.out], below_drewN HBj.out _⟩
                    case measure => simp only [RowKit.intOf]; omega
              · obtain rfl : j = S.all.length := by omega
                have hjI : ¬ ((S.all.length : Int) < (S.all.length : Int)) := by omega
                rw [didJ_all]
                have hc := cntP_succ k (votB S.all ⟨vs, vb, vx⟩)
                cases hvb : votB S.all ⟨vs, vb, vx⟩ k with
                | true =>
                  rw [hvb, if_pos rfl] at hc
                  have HC := Lib.hid hc
                  clear hc
                  go_wp2_with fail
                  go_roundw
                  case rel => exact ⟨k + 1, by omega, by go_num, by rw [HC.out]; go_num, HBj.out⟩
                  case measure => simp only [RowKit.intOf]; omega
                | false =>
                  rw [hvb, if_neg (by decide)] at hc
                  have HC := Lib.hid hc
                  clear hc
                  go_wp2_with fail
                  go_roundw
                  case rel => exact ⟨k + 1, by omega, by go_num, by rw [HC.out]; go_num, HBj.out⟩
                  case measure => simp only [RowKit.intOf]; omega
          · obtain rfl : k = S.n := by omega
            have hkI : ¬ ((S.n : Int) < (S.n : Int)) := by omega
            have hv := HV.out _ HBk.out
            have x2 : wr.cell? ⟨Z, 2, none⟩ = some (.string vx) := by rw [cell_at hv]; rfl
            clear hv
            by_cases hm : S.n < 2 * cntP S.n (votB S.all ⟨vs, vb, vx⟩)
            · have hmI : 2 * ((cntP S.n (votB S.all ⟨vs, vb, vx⟩) : Nat) : Int) > (S.n : Int) := by omega
              have HMj := Lib.hid (HI.out.chosen (v := ⟨vs, vb, vx⟩) hm)
              go_wp2_with fail
              go_ret2
              exact ⟨by rw [HMj.out]; rfl, HT.out _ HBk.out⟩
            · have hmI : ¬ 2 * ((cntP S.n (votB S.all ⟨vs, vb, vx⟩) : Nat) : Int) > (S.n : Int) := by omega
              have HMj := Lib.hid (show ¬ Maj S.n S.all ⟨vs, vb, vx⟩ from hm)
              go_wp2_with fail
              go_roundw
              case rel => exact ⟨i + 1, by omega, by go_num, fun m d hm1 hm2 hm3 => by
                by_cases e : m = i
                · subst e
                  rw [Hd.out] at hm2
                  injection hm2 with hm2
                  subst hm2
                  exact HMj.out
                · exact HNo.out m d (by omega) hm2 hm3, HT.out _ HBk.out⟩
              case measure => simp only [RowKit.intOf]; omega
      · have hsI : (vs != s) = true := by simp [hs]
        have hb7 : Below w.heap.size w (wr.alloc (.cells #[.int .i64 vs, .int .i64 vb, .string vx] 78)) := HB.out.alloc HB.out.size _
        have HB7 := Lib.hid hb7
        clear hb7
        go_wp2_with fail
        go_roundw
        case rel => exact ⟨i + 1, by omega, by go_num, fun m d hm1 hm2 hm3 => by
          by_cases e : m = i
          · subst e
            rw [Hd.out] at hm2
            injection hm2 with hm2
            subst hm2
            exact absurd hm3 hs
          · exact HNo.out m d (by omega) hm2 hm3, HB7.out⟩
        case measure => simp only [RowKit.intOf]; omega
    · obtain rfl : i = S.all.length := by omega
      have hiI : ¬ ((S.all.length : Int) < (S.all.length : Int)) := by omega
      have hun : choOf S s = (⟨#[]⟩, false) := HI.out.unchosen fun v hv hm => by
        obtain ⟨k, -, hk⟩ := Maj.some hm
        obtain ⟨m, hm1, hm2⟩ := List.getElem_of_mem hk
        exact HNo.out m _ hm1 (List.getElem?_eq_getElem hm1) (by rw [hm2]; exact hv) (by rw [hm2]; exact hm)
      have HUn := Lib.hid hun
      clear hun
      go_wp2_with fail
      go_ret2
      exact ⟨by rw [HUn.out]; rfl, HB.out⟩
end Go.Proofs.YtkcbmkedhipgeaaGreatDoor
