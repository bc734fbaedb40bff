/-
  Log, Down, Up (package quorum), by contracts.

  Down, Up (package quorum), by contracts.
-/
import Derived.Test.YtkcbmkedhipgeaaGreatDoorPq6
namespace Go.Proofs.YtkcbmkedhipgeaaGreatDoor
open Go.RowKit Go.ChangeMaps

theorem infoSt : (Tryz.prog.info? 9).map (fun i => (i.zero, i.size, i.bytes)) = some (some (.string ⟨#[]⟩), 1, 16) := by kernel_rfl
set_option maxRecDepth 100000 in
set_option maxHeartbeats 1000000 in
theorem cloneS_any {w : World} {base : Nat} {v : Value} {l : List ByteArray} (h : OwnsS w base v l) (hl : l.length ≤ 100000) :
    Calls Tryz.prog 29 #[v] w fun e w' => ∃ v', e = .returned v' ∧ OwnsS w' w.heap.size v' l ∧ Below w.heap.size w w' := by
  obtain ⟨i0, hi0, hz0, hz1, hz2⟩ := info_parts infoSt
  have he : ∀ (a : Option Addr) (n c : Nat) (w : World), (binOp .eql 39 (.slice a n c) (.slice none 0 0)).run Tryz.prog w = .ok (.bool a.isNone) w := fun a n c w => by cases a <;> rfl
  have h' := h
  rcases h'.2 with ⟨rfl, hz⟩ | ⟨g, cap, cur, rfl, hb, hg, rest⟩
  · have he1 := fun w => he none 0 0 w
    have : l = [] := List.length_eq_zero_iff.1 hz
    subst this
    clear h h' he
    go_enter Tryz.func29, Tryz.ntmps29
    go_wp2
    go_ret
    exact ⟨_, rfl, OwnsS.nil _ _, Below.refl _ _⟩
  · have hgl : g < w.heap.size := lt_of hg
    have hba : Below w.heap.size w (w.alloc (.cells #[] 9)) := (Below.refl _ _).alloc (Nat.le_refl _) _
    have HB := Lib.hid hba
    have HE := Lib.hid (World.ownsRow_lit (base := w.heap.size) (e := 9) (size := 1) w #[] 0 (Nat.le_refl _) (by simp) rfl)
    have HC := Lib.hid (show ∀ j u, (scs l)[j]? = some u → (w.alloc (.cells #[] 9)).cell? ((⟨g, 0, none⟩ : Addr).add j) = some u from fun j u hu => by
      have := h.cells (g := g) rfl j u hu
      exact (hba.cell (p := (⟨g, 0, none⟩ : Addr).add j) (by by_cases hj : j = 0 <;> simp [Addr.add, hj] <;> exact hgl)).trans this)
    have hlen : (scs l).length = l.length := scs_len l
    have H1 := Lib.hid (scs_one l)
    have he1 := fun n c w => he (some ⟨g, 0, none⟩) n c w
    simp only [Option.isNone_some] at he1
    clear h h' rest hg hba hb he
    by_cases hl0 : l = []
    · subst hl0
      go_enter Tryz.func29, Tryz.ntmps29
      go_wp2
      go_ret
      exact ⟨_, rfl, HE.out, HB.out⟩
    have hpos : 0 < l.length := List.length_pos_iff.2 hl0
    go_enter Tryz.func29, Tryz.ntmps29
    go_wp2_with (at_builtin; refine wpList_append_lies _ rfl (.tmp 5) (.tmp 6) 39 rfl w.heap.size 9 i0 _ 1 16 Tryz.underlying39 hi0 hz0 hz1 hz2 rfl (by decide) _ 0 [] rfl HE.out ⟨g, 0, none⟩ l.length cap (scs l) rfl (by simp [hlen]) HC.out H1.out hpos (by unfold maxLen; omega) (by omega) (by simp) (w.heap.size + 1) (by simp) ?_; intro g' cap' w3 hown hgrow _ _; (have K2 := Lib.hid (below_grown HB.out hgrow HB.out.size (fun q hq => (World.ownsRow.lt HE.out q hq).1))); have K3 := Lib.hid hown; clear hown hgrow)
    go_ret
    have k3 := K3.out
    simp only [List.nil_append, Nat.zero_add] at k3
    exact ⟨_, rfl, k3, K2.out⟩
theorem logOf_nat {S : Gp} {k : Nat} (h : k < S.n) : logOf S (k : Int) = (S.nd k).log := by
  unfold logOf
  rw [if_pos (has_iff.2 ⟨by omega, by omega⟩)]; rfl
set_option maxRecDepth 100000 in
set_option maxHeartbeats 1000000 in
theorem log_any {w : World} {g : Nat} {S : Gp} {P : Pl} (h : PG w g S P) (i : Int) (hl : ∀ k, k < S.n → (S.nd k).log.length ≤ 100000) :
    Calls Tryz.prog 16 #[.pointer (some ⟨g, 0, none⟩), .int .i64 i] w fun e w' => ∃ v, e = .returned v ∧ OwnsS w' w.heap.size v (logOf S i) ∧ Below w.heap.size w w' := by
  have HH := Lib.hid (has_any h i)
  cases hh : S.has i with
  | false =>
    rw [hh] at HH
    unfold logOf
    rw [hh, if_neg (by decide)]
    clear h
    go_enter Tryz.func16, Tryz.ntmps16
    go_wp2_with (go_at_call 28; (with_reducible refine HH.out.mono ?_); rintro e w2 ⟨rfl, rfl⟩)
    go_ret
    exact ⟨_, rfl, OwnsS.nil _ _, Below.refl _ _⟩
  | true =>
    rw [hh] at HH
    obtain ⟨e1, e2⟩ := has_nat hh
    obtain ⟨hi0, hin⟩ := has_iff.1 hh
    generalize hk : i.toNat = k at *
    subst e1
    rw [logOf_nat e2]
    have c0 := h.c0
    have c1 := h.nodeAt e2
    have hN := h.nd k e2
    have c2 := hN.c2
    have HC := Lib.hid (cloneS_any hN.log (hl k e2))
    obtain ⟨A, c, hv, -⟩ := hN.log.form
    rw [hv] at c2 HC
    clear h hN hv hh hk hl
    go_enter Tryz.func16, Tryz.ntmps16
    go_wp2_with (first
      | (go_at_call 28; (with_reducible refine HH.out.mono ?_); rintro e w2 ⟨rfl, rfl⟩)
      | (go_at_call 29; (with_reducible refine HC.out.mono ?_); rintro e w2 ⟨v', rfl, k1, k2⟩; have K1 := Lib.hid k1; have K2 := Lib.hid k2; clear k1 k2)
      | fail)
    go_ret
    exact ⟨_, rfl, K1.out, K2.out⟩
end Go.Proofs.YtkcbmkedhipgeaaGreatDoor

namespace Go.Proofs.YtkcbmkedhipgeaaGreatDoor
open Go.RowKit Go.ChangeMaps

/-- A node goes down, or comes up: its block alone has turned. -/
theorem PG.flip {w w' : World} {g k : Nat} {S : Gp} {P P' : Pl} {u : Bool} (h : PG w g S P) (hk : k < S.n) (hf : Fb (P.nds k) w w') (hcs : w'.heap[P.nds k]? = some (.cells (nodeC P' k { S.nd k with up := u }) 62 (0, 0)))
    (hp : P'.nb = P.nb ∧ P'.cap = P.cap ∧ P'.mb = P.mb ∧ P'.nds = P.nds ∧ P'.B = P.B ∧ P'.O = P.O ∧ P'.c = P.c) (hlr : P'.lr = P.lr) (ho : ∀ j, j ≠ k → P'.ac j = P.ac j ∧ P'.sv j = P.sv j)
    (hacc : u = true → PA w' (P'.ac k) (S.nd k).A) (hsav : u = false → P'.sv k = saveOf (S.nd k).A) (hlo : u = true → P.B ≤ P'.ac k) (ha : u = true → ∀ j, j < S.n → j ≠ k → (S.nd j).up = true → P'.ac k ≠ P.ac j) :
    PG w' g (S.set k { S.nd k with up := u }) P' ∧ PT S.n P P' w w' := by
  have hN := h.nd k hk
  have hc : Chg (fun b _ => b = P.nds k) w w' := Chg.of_fb hf (fun _ _ => rfl)
  obtain ⟨f1, f2, f3, f4, f5, f6, f7⟩ := hp
  refine ⟨h.node hk (hc.mono fun _ _ e => .inl e) ⟨by rw [f4]; exact hcs, hacc, hsav, hN.good, ?_, by rw [f5, f4]; exact hN.lo, fun hu => by rw [f5]; exact hlo hu⟩ ⟨f1, f2, f3, f4, f5, f6, f7⟩ (fun j hj => ⟨(ho j hj).1, by rw [hlr], (ho j hj).2⟩) ha (fun b hb j hj e => by rw [hlr] at hb; exact h.lrNe k j hk hj (Ne.symm e) b hb),
    ⟨Chg.of_fb hf (fun o hob => ?_), fun b hb => .inl ?_, f1, f2, f3, f4, f5⟩⟩
  · rw [f5, hlr]
    refine hN.log.kept fun b hb => ?_
    obtain ⟨cur, h3⟩ := hN.log.ty hb
    rw [h3]
    refine hc.keep h3 fun e => ?_
    have e' : b = P.nds k := e
    rw [e', hN.cs] at h3
    injection h3 with h3
    injection h3 with _ h4
    exact absurd h4 (by decide)
  · rw [hN.cs] at hob
    injection hob with hob
    rw [← hob]
    exact ⟨hN.lo, .inl (by simp [isTy])⟩
  · obtain ⟨j, hj, hq⟩ := hb
    exact ⟨j, hj, by rw [hlr] at hq; exact hq⟩
theorem set_self {S : Gp} {k : Nat} {u : Bool} (h : (S.nd k).up = u) : S.set k { S.nd k with up := u } = S := by
  obtain ⟨n, nd, all, tab⟩ := S
  unfold Gp.set
  congr
  funext j
  unfold at1
  split
  · rename_i e
    subst e
    simp only at h ⊢
    rw [← h]
  · rfl
set_option maxRecDepth 100000 in
set_option maxHeartbeats 2000000 in
theorem down_any {w : World} {g : Nat} {S : Gp} {P : Pl} (h : PG w g S P) (hT : Tab w) (i : Int) :
    Calls Tryz.prog 23 #[.pointer (some ⟨g, 0, none⟩), .int .i64 i] w fun e w' => ∃ P', e = .returned (.int .i64 (setE S i)) ∧ PG w' g (setS S i false) P' ∧ PT S.n P P' w w' := by
  have HH := Lib.hid (has_any h i)
  unfold setE setS
  cases hh : S.has i with
  | false =>
    rw [hh] at HH
    rw [if_pos rfl, if_pos rfl]
    have HP := Lib.hid h
    clear h
    go_enter Tryz.func23, Tryz.ntmps23
    go_wp2_with (go_at_call 28; (with_reducible refine HH.out.mono ?_); rintro e w2 ⟨rfl, rfl⟩)
    go_ret
    exact ⟨P, rfl, HP.out, PT.of_below (Below.refl _ _)⟩
  | true =>
    rw [hh] at HH
    rw [if_neg (by decide), if_neg (by decide)]
    obtain ⟨e1, e2⟩ := has_nat hh
    obtain ⟨hi0, hin⟩ := has_iff.1 hh
    generalize hk : i.toNat = k at *
    subst e1
    have c0 := h.c0
    have c1 := h.nodeAt e2
    have hN := h.nd k e2
    have c2 := hN.c0
    have HU := Lib.hid (isUp_any hN)
    have HP := Lib.hid h
    cases hu : (S.nd k).up with
    | false =>
      rw [hu] at HU
      have hs := set_self hu
      rw [hs]
      clear h hN hh hk c2 hs
      go_enter Tryz.func23, Tryz.ntmps23
      go_wp2_with (first
        | (go_at_call 28; (with_reducible refine HH.out.mono ?_); rintro e w2 ⟨rfl, rfl⟩)
        | (go_at_call 33; (with_reducible refine HU.out.mono ?_); rintro e w2 ⟨rfl, rfl⟩)
        | fail)
      go_ret
      exact ⟨P, rfl, HP.out, PT.of_below (Below.refl _ _)⟩
    | true =>
      rw [hu] at HU
      rw [if_pos hu] at c2
      have HSv := Lib.hid (save_any (P.ac k) _ w (hN.acc hu) hT)
      have HN := Lib.hid hN
      have Hu := Lib.hid hu
      clear h hN hh hk hu
      go_enter Tryz.func23, Tryz.ntmps23
      go_wp2_with (first
        | (go_at_call 28; (with_reducible refine HH.out.mono ?_); rintro e w2 ⟨rfl, rfl⟩)
        | (go_at_call 33; (with_reducible refine HU.out.mono ?_); rintro e w2 ⟨rfl, rfl⟩)
        | (go_at_call 45; (with_reducible refine HSv.out.mono ?_); rintro e w2 ⟨rfl, hb⟩; have hcs := (hb.block _ (lt_of HN.out.cs)).trans HN.out.cs; have f0 := free_at hcs 0; have f1 := free_at hcs 1; (have g0 : w2.cell? ⟨P.nds k, 0, none⟩ = some (.pointer (some ⟨P.ac k, 0, none⟩)) := by rw [cell_at hcs]; unfold nodeC; rw [if_pos Hu.out]; rfl); (have g1 : w2.cell? ⟨P.nds k, 1, none⟩ = some (.string (P.sv k)) := by rw [cell_at hcs]; rfl); have HB := Lib.hid hb; have HCS := Lib.hid hcs; clear hb hcs)
        | fail)
      go_ret
      have hP2 := HP.out.below HB.out
      obtain ⟨r1, r2⟩ := hP2.flip (w' := (w2.setCell ⟨P.nds k, 1, none⟩ (.string (saveOf (S.nd k).A))).setCell ⟨P.nds k, 0, none⟩ (.pointer none)) (P' := { P with sv := at1 P.sv k (saveOf (S.nd k).A) }) (u := false) e2 ((Fb.same.set 1 _).set 0 _)
        (by
          have := heap_setCell (heap_setCell HCS.out 1 (.string (saveOf (S.nd k).A))) 0 (.pointer none)
          rw [this]
          unfold nodeC
          rw [if_pos Hu.out]
          show some (Obj.cells #[.pointer none, .string (saveOf (S.nd k).A), P.lr k, .int .i64 (S.nd k).rd] _ _) = some (Obj.cells #[.pointer none, .string (at1 P.sv k (saveOf (S.nd k).A) k), P.lr k, .int .i64 (S.nd k).rd] _ _)
          rw [at1_same])
        ⟨rfl, rfl, rfl, rfl, rfl, rfl, rfl⟩ rfl (fun j hj => ⟨rfl, at1_other _ _ hj⟩) (fun h => by cases h) (fun _ => at1_same _ _ _) (fun h => by cases h) (fun h => by cases h)
      exact ⟨_, rfl, r1, (PT.of_below HB.out).trans r2⟩
set_option maxRecDepth 100000 in
set_option maxHeartbeats 2000000 in
theorem up_any {w : World} {g : Nat} {S : Gp} {P : Pl} (h : PG w g S P) (hT : Tab w) (hE : ErrType w) (i : Int) :
    Calls Tryz.prog 20 #[.pointer (some ⟨g, 0, none⟩), .int .i64 i] w fun e w' => ∃ P', e = .returned (.int .i64 (setE S i)) ∧ PG w' g (setS S i true) P' ∧ PT S.n P P' w w' := by
  have HH := Lib.hid (has_any h i)
  unfold setE setS
  cases hh : S.has i with
  | false =>
    rw [hh] at HH
    rw [if_pos rfl, if_pos rfl]
    have HP := Lib.hid h
    clear h
    go_enter Tryz.func20, Tryz.ntmps20
    go_wp2_with (go_at_call 28; (with_reducible refine HH.out.mono ?_); rintro e w2 ⟨rfl, rfl⟩)
    go_ret
    exact ⟨P, rfl, HP.out, PT.of_below (Below.refl _ _)⟩
  | true =>
    rw [hh] at HH
    rw [if_neg (by decide), if_neg (by decide)]
    obtain ⟨e1, e2⟩ := has_nat hh
    obtain ⟨hi0, hin⟩ := has_iff.1 hh
    generalize hk : i.toNat = k at *
    subst e1
    have c0 := h.c0
    have c1 := h.nodeAt e2
    have hN := h.nd k e2
    have c2 := hN.c0
    have HU := Lib.hid (isUp_any hN)
    have HP := Lib.hid h
    cases hu : (S.nd k).up with
    | true =>
      rw [hu] at HU
      have hs := set_self hu
      rw [hs]
      clear h hN hh hk c2 hs
      go_enter Tryz.func20, Tryz.ntmps20
      go_wp2_with (first
        | (go_at_call 28; (with_reducible refine HH.out.mono ?_); rintro e w2 ⟨rfl, rfl⟩)
        | (go_at_call 33; (with_reducible refine HU.out.mono ?_); rintro e w2 ⟨rfl, rfl⟩)
        | fail)
      go_ret
      exact ⟨P, rfl, HP.out, PT.of_below (Below.refl _ _)⟩
    | false =>
      rw [hu] at HU
      rw [if_neg (by rw [hu]; decide)] at c2
      have c3 := hN.c1
      have hsv := hN.sav hu
      have hsz := hN.good.save_size
      have hld := load_any (P.sv k) w hT hE (by rw [hsv]; omega)
      have hll : loadOf (P.sv k) = some (S.nd k).A := by rw [hsv]; exact load_save hN.good
      have HLd := Lib.hid hld
      have HLl := Lib.hid hll
      have HN := Lib.hid hN
      have Hu := Lib.hid hu
      clear h hN hh hk hu hld hll hsv hsz
      go_enter Tryz.func20, Tryz.ntmps20
      go_wp2_with (first
        | (go_at_call 28; (with_reducible refine HH.out.mono ?_); rintro e w2 ⟨rfl, rfl⟩)
        | (go_at_call 33; (with_reducible refine HU.out.mono ?_); rintro e w2 ⟨rfl, rfl⟩)
        | fail)
      go_at_call 34
      (with_reducible refine HLd.out.mono ?_)
      rintro e w2 ⟨v, q, rfl, hb, hor⟩
      rcases hor with ⟨hn, -, -⟩ | ⟨A, a, hA, rfl, rfl, hla, hPA⟩
      · rw [HLl.out] at hn; cases hn
      · rw [HLl.out] at hA
        injection hA with hA
        subst hA
        have hcs := (hb.block _ (lt_of HN.out.cs)).trans HN.out.cs
        have f0 := free_at hcs 0
        have f1 := free_at hcs 1
        have g0 : w2.cell? ⟨P.nds k, 0, none⟩ = some (.pointer none) := by
          rw [cell_at hcs]; unfold nodeC; rw [if_neg (by rw [Hu.out]; decide)]; rfl
        have g1 : w2.cell? ⟨P.nds k, 1, none⟩ = some (.string (P.sv k)) := by rw [cell_at hcs]; rfl
        have HB := Lib.hid hb
        have HCS := Lib.hid hcs
        have HPA := Lib.hid hPA
        clear hb hcs hPA
        go_wp2
        go_ret
        have hP2 := HP.out.below HB.out
        have hfb : Fb (P.nds k) w2 ((w2.setCell ⟨P.nds k, 0, none⟩ (.pointer (some ⟨a, 0, none⟩))).setCell ⟨P.nds k, 1, none⟩ (.string ⟨#[]⟩)) := (Fb.same.set 0 _).set 1 _
        have hck : Chg (fun b _ => b = P.nds k) w2 ((w2.setCell ⟨P.nds k, 0, none⟩ (.pointer (some ⟨a, 0, none⟩))).setCell ⟨P.nds k, 1, none⟩ (.string ⟨#[]⟩)) := Chg.of_fb hfb (fun _ _ => rfl)
        obtain ⟨r1, r2⟩ := hP2.flip (P' := { P with ac := at1 P.ac k a, sv := at1 P.sv k ⟨#[]⟩ }) (u := true) e2 hfb
          (by
            have := heap_setCell (heap_setCell HCS.out 0 (.pointer (some ⟨a, 0, none⟩))) 1 (.string ⟨#[]⟩)
            rw [this]
            unfold nodeC
            rw [if_neg (by rw [Hu.out]; decide), if_pos rfl]
            show some (Obj.cells #[.pointer (some ⟨a, 0, none⟩), .string ⟨#[]⟩, P.lr k, .int .i64 (S.nd k).rd] _ _) = some (Obj.cells #[.pointer (some ⟨at1 P.ac k a k, 0, none⟩), .string (at1 P.sv k ⟨#[]⟩ k), P.lr k, .int .i64 (S.nd k).rd] _ _)
            rw [at1_same, at1_same])
          ⟨rfl, rfl, rfl, rfl, rfl, rfl, rfl⟩ rfl (fun j hj => ⟨at1_other _ _ hj, at1_other _ _ hj⟩) (fun _ => by
            show PA _ (at1 P.ac k a k) _
            rw [at1_same]
            refine HPA.out.keptTy fun b cs t f hbb ht => hck.keep hbb fun e => ?_
            have e' : b = P.nds k := e
            rw [e', HCS.out] at hbb
            injection hbb with hbb
            injection hbb with _ h4
            rw [← h4] at ht
            exact absurd ht (by decide)) (fun h => by cases h) (fun _ => by
            show P.B ≤ at1 P.ac k a k
            rw [at1_same]
            have := HN.out.lo
            have := lt_of HN.out.cs
            omega) (fun _ j hj hne huj => by
            show at1 P.ac k a k ≠ P.ac j
            rw [at1_same]
            intro e
            have := ((HP.out.nd j hj).acc huj).pc.lt
            omega)
        exact ⟨_, rfl, r1, (PT.of_below HB.out).trans r2⟩
end Go.Proofs.YtkcbmkedhipgeaaGreatDoor
