/-
  Learn of the document's own (weirkeepref11), by a contract.
-/
import Derived.Test.YtkcbmkedhipgeaaGreatDoorRq6
import Derived.Test.YtkcbmkedhipgeaaGreatDoorPq10
namespace Go.Proofs.YtkcbmkedhipgeaaGreatDoor
open Go.RowKit Go.ChangeMaps

/-- A node's log is another row, a new one. -/
theorem RG.logged {w w2 : World} {r k : Nat} {S : Gp} {Q : Ql} {v : Value} {l : List ByteArray} (h : RG w r S Q) (hk : k < S.n) (hb : Below w.heap.size w w2) (hown : OwnsS w2 Q.B v l) (hat : ∀ b, v.ownBlock = some b → w.heap.size ≤ b) :
    RG (w2.setCell ⟨Q.nds k, 2, none⟩ v) r (S.set k { S.nd k with log := l }) { Q with lr := at1 Q.lr k v } ∧ RT S.n Q { Q with lr := at1 Q.lr k v } w (w2.setCell ⟨Q.nds k, 2, none⟩ v) := by
  have hN := h.nd k hk
  have hcs2 := (hb.block _ (lt_of hN.cs)).trans hN.cs
  have hc2 : Chg (fun b _ => b = Q.nds k) w2 (w2.setCell ⟨Q.nds k, 2, none⟩ v) := Chg.of_fb (Fb.same.set 2 _) (fun _ _ => rfl)
  have hc : Chg (fun b _ => b = Q.nds k) w (w2.setCell ⟨Q.nds k, 2, none⟩ v) := (Chg.of_below hb).same hc2
  have hkN : ∀ (b : Nat) (cs : Array Value) (t : TypeId) (f : Nat × Nat), t ≠ 69 → w.heap[b]? = some (Obj.cells cs t f) → (w2.setCell ⟨Q.nds k, 2, none⟩ v).heap[b]? = some (Obj.cells cs t f) := fun b cs t f ht hbb => hc.keep hbb fun e => by
    have e' : b = Q.nds k := e
    rw [e', hN.cs] at hbb
    injection hbb with hbb
    injection hbb with _ h2
    exact ht h2.symm
  have hlr : ∀ j, ({ Q with lr := at1 Q.lr k v } : Ql).lr j = if j = k then v else Q.lr j := fun j => rfl
  refine ⟨h.node hk hc ⟨?_, ?_, hN.good, ?_, hN.lo, hN.loA⟩ ⟨rfl, rfl, rfl, rfl, rfl, rfl⟩ (fun j hj => by rw [hlr, if_neg hj]), ⟨⟨hc.os, hc.tape, hc.output, hc.size, fun b o hbb => ?_⟩, fun i hi b hbb => ?_, rfl, rfl, rfl, rfl, rfl⟩⟩
  · have := heap_setCell hcs2 2 v
    rw [this]
    unfold rnodeC
    rw [hlr, if_pos rfl]; rfl
  · refine hN.acc.keptTy fun b cs t f hbb ht => hkN b cs t f ?_ hbb
    have ht' : t = 67 ∨ t = 78 := by simpa using ht
    rcases ht' with e5 | e5 <;> (rw [e5]; decide)
  · rw [hlr, if_pos rfl]
    refine OwnsS.kept hown fun b hbb => ?_
    obtain ⟨cur, h3⟩ := OwnsS.ty hown hbb
    exact Below.heap_setCell _ _ _ _ (fun e => by
      have e' : b = Q.nds k := e
      rw [e', hcs2] at h3
      injection h3 with h3
      injection h3 with _ h4
      exact absurd h4 (by decide))
  · rcases hc.block b o hbb with e | e
    · left
      have e' : b = Q.nds k := e
      rw [e', hN.cs] at hbb
      injection hbb with hbb
      rw [e', ← hbb]
      exact ⟨hN.lo, by simp [isTy]⟩
    · exact .inr e
  · rw [hlr] at hbb
    by_cases e : i = k
    · rw [if_pos e] at hbb
      exact .inr (hat b hbb)
    · rw [if_neg e] at hbb
      exact .inl ⟨i, hi, hbb⟩
theorem infoStR : (Tryz.prog.info? 9).map (fun i => (i.zero, i.size, i.bytes)) = some (some (.string ⟨#[]⟩), 1, 16) := by kernel_rfl
set_option maxRecDepth 100000 in
set_option maxHeartbeats 4000000 in
theorem rlearn_any {w : World} {r : Nat} {S : Gp} {Q : Ql} (h : RG w r S Q) (hl : ∀ k, k < S.n → (S.nd k).log.length ≤ 4096) (i j : Int) :
    Calls Tryz.prog 26 #[.pointer (some ⟨r, 0, none⟩), .int .i64 i, .int .i64 j] w fun e w' => ∃ Q', e = .returned (.tuple #[.int .i64 (leaE S i j).1, .int .i64 (leaE S i j).2]) ∧ RG w' r (leaS S i j) Q' ∧ RT S.n Q Q' w w' := by
  have HH := Lib.hid (rhas_any h i)
  have HJ := Lib.hid (rhas_any h j)
  have HR := Lib.hid h
  cases hh : S.has i with
  | false =>
    rw [hh] at HH
    have he : leaE S i j = (0, 3) := by unfold leaE; rw [if_pos (.inl hh)]
    have hs : leaS S i j = S := by unfold leaS; rw [he, if_neg (fun h => by cases h.1)]
    rw [he, hs]
    clear h he hs hl
    go_enter Tryz.func26, Tryz.ntmps26
    go_wp2_with (go_at_call 30; (with_reducible refine HH.out.mono ?_); rintro e w2 ⟨rfl, rfl⟩)
    go_ret2
    exact ⟨Q, rfl, HR.out, RT.of_below (Below.refl _ _)⟩
  | true =>
    rw [hh] at HH
    cases hj : S.has j with
    | false =>
      rw [hj] at HJ
      have he : leaE S i j = (0, 3) := by unfold leaE; rw [if_pos (.inr hj)]
      have hs : leaS S i j = S := by unfold leaS; rw [he, if_neg (fun h => by cases h.1)]
      rw [he, hs]
      clear h he hs hl
      go_enter Tryz.func26, Tryz.ntmps26
      go_wp2_with (first
        | (go_at_call 30; (with_reducible refine HH.out.mono ?_); rintro e w2 ⟨rfl, rfl⟩)
        | (go_at_call 30; (with_reducible refine HJ.out.mono ?_); rintro e w2 ⟨rfl, rfl⟩)
        | fail)
      go_ret2
      exact ⟨Q, rfl, HR.out, RT.of_below (Below.refl _ _)⟩
    | true =>
      rw [hj] at HJ
      obtain ⟨e1, e2⟩ := has_nat hh
      obtain ⟨hi0, hin⟩ := has_iff.1 hh
      obtain ⟨e3, e4⟩ := has_nat hj
      obtain ⟨hj0, hjn⟩ := has_iff.1 hj
      generalize hk : i.toNat = a at *
      generalize hm : j.toNat = b at *
      subst e1 e3
      have hle : leaE S (a : Int) (b : Int) = if (S.nd a).up = false ∨ (S.nd b).up = false then ((0 : Int), (70 : Int)) else ((((S.nd b).log.length - (S.nd a).log.length : Nat) : Int), (0 : Int)) := by
        unfold leaE; rw [if_neg (by rw [hh, hj]; decide)]; rfl
      have hls : leaS S (a : Int) (b : Int) = if (leaE S (a : Int) (b : Int)).2 = 0 ∧ (S.nd a).log.length < (S.nd b).log.length then S.set a { S.nd a with log := (S.nd b).log } else S := rfl
      have c0 := h.c0
      have c1 := h.nodeAt e2
      have c2 := h.nodeAt e4
      have d0 := (h.nd a e2).c0
      have d1 := (h.nd b e4).c0
      cases hua : (S.nd a).up with
      | false =>
        rw [hua] at d0
        rw [hua, if_pos (.inl rfl)] at hle
        rw [hle, if_neg (fun h => by cases h.1)] at hls
        rw [hle, hls]
        clear h hle hls hl hh hj hk hm hua
        go_enter Tryz.func26, Tryz.ntmps26
        go_wp2_with (first
          | (go_at_call 30; (with_reducible refine HH.out.mono ?_); rintro e w2 ⟨rfl, rfl⟩)
          | (go_at_call 30; (with_reducible refine HJ.out.mono ?_); rintro e w2 ⟨rfl, rfl⟩)
          | fail)
        go_ret2
        exact ⟨Q, rfl, HR.out, RT.of_below (Below.refl _ _)⟩
      | true =>
        rw [hua] at d0
        cases hub : (S.nd b).up with
        | false =>
          rw [hub] at d1
          rw [hub, if_pos (.inr rfl)] at hle
          rw [hle, if_neg (fun h => by cases h.1)] at hls
          rw [hle, hls]
          clear h hle hls hl hh hj hk hm hua hub
          go_enter Tryz.func26, Tryz.ntmps26
          go_wp2_with (first
            | (go_at_call 30; (with_reducible refine HH.out.mono ?_); rintro e w2 ⟨rfl, rfl⟩)
            | (go_at_call 30; (with_reducible refine HJ.out.mono ?_); rintro e w2 ⟨rfl, rfl⟩)
            | fail)
          go_ret2
          exact ⟨Q, rfl, HR.out, RT.of_below (Below.refl _ _)⟩
        | true =>
          rw [hub] at d1
          rw [hua, hub, if_neg (by decide)] at hle
          rw [hle] at hls ⊢
          simp only [true_and] at hls
          rw [hls]
          have f1 := (h.nd a e2).c2
          have f2 := (h.nd b e4).c2
          obtain ⟨Aa, ca, hva, -⟩ := (h.nd a e2).log.form
          obtain ⟨Ab, cb, hvb, -⟩ := (h.nd b e4).log.form
          rw [hva] at f1
          rw [hvb] at f2
          have HVA := Lib.hid hva
          have HVB := Lib.hid hvb
          have hla := hl a e2
          have hlb := hl b e4
          clear h hle hls hl hh hj hk hm hua hub hva hvb
          by_cases hlt : (S.nd a).log.length < (S.nd b).log.length
          · rw [if_pos hlt]
            have hnI : ¬ ((S.nd b).log.length : Int) - ((S.nd a).log.length : Int) ≤ 0 := by omega
            go_enter Tryz.func26, Tryz.ntmps26
            go_wp2_with (first
              | (go_at_call 30; (with_reducible refine HH.out.mono ?_); rintro e w2 ⟨rfl, rfl⟩)
              | (go_at_call 30; (with_reducible refine HJ.out.mono ?_); rintro e w2 ⟨rfl, rfl⟩)
              | fail)
            go_quiet (fail)
            have hbq : Below w.heap.size w (w.drewN nq) := below_drewN (Below.refl _ _) nq
            have hR5 := HR.out.below hbq
            generalize w.drewN nq = w5 at hbq hR5 ⊢
            clear HH HJ c0 c1 c2 d0 d1 f1 f2
            have hb6 : Below w5.heap.size w5 (w5.alloc (.cells #[] 9)) := (Below.refl _ _).alloc (Nat.le_refl _) _
            have hb6d : Below w5.heap.size w5 (w5.alloc (.cells #[] 9)).drew := hb6.drew
            have hR6 := hR5.below hb6d
            have c0 := hR6.c0
            have c1 := hR6.nodeAt e2
            have c2 := hR6.nodeAt e4
            have hNa := hR6.nd a e2
            have hNb := hR6.nd b e4
            have f2 := hNb.c2
            rw [HVB.out] at f2
            obtain ⟨ti, ti0, tz0, tz1, tz2⟩ := info_parts infoStR
            have hsB : Q.B ≤ w5.heap.size := by have := (hR5.nd a e2).lo; have := lt_of (hR5.nd a e2).cs; omega
            have hsB6 : Q.B ≤ (w5.alloc (.cells #[] 9)).drew.heap.size := Nat.le_trans hsB hb6d.size
            have hown0 : (w5.alloc (.cells #[] 9)).drew.ownsRow Q.B 9 1 (.slice (some ⟨w5.heap.size, 0, none⟩) 0 0) 0 [] := ownsRow_kept (World.ownsRow_lit (base := Q.B) (e := 9) (size := 1) w5 #[] 0 hsB (by simp) rfl) (fun _ _ => rfl)
            rcases hNb.log.parts with ⟨-, h0⟩ | ⟨gb, cap, hvb, hgb, hcl, hcm, hget⟩
            · rw [h0] at hlt; simp at hlt
            have hvb' := hvb
            rw [HVB.out] at hvb'
            simp only [Value.slice.injEq, true_and] at hvb'
            obtain ⟨rfl, rfl⟩ := hvb'
            have hnews : ∀ j u, (scs (S.nd b).log)[j]? = some u → (w5.alloc (.cells #[] 9)).drew.cell? ((⟨gb, 0, none⟩ : Addr).add j) = some u := fun j u hu => by
              unfold scs at hu
              rw [List.getElem?_map] at hu
              cases hq : (S.nd b).log[j]? with
              | none => rw [hq] at hu; cases hu
              | some y =>
                rw [hq] at hu
                simp only [Option.map_some, Option.some.injEq] at hu
                subst hu
                have hadd : (⟨gb, 0, none⟩ : Addr).add j = ⟨gb, j, none⟩ := by unfold Addr.add; split <;> simp_all
                rw [hadd]
                exact hget _ _ hq
            have hnl : (scs (S.nd b).log).length = (S.nd b).log.length * 1 := by rw [scs_len]; omega
            have hkA : ∀ (w2 : World), (w5.alloc (.cells #[] 9)).drew.grownBy w2 (Value.ownBlock (.slice (some ⟨w5.heap.size, 0, none⟩) 0 0)) → w2.heap[Q.nds a]? = some (.cells (rnodeC Q a (S.nd a)) 69 (0, 0)) := fun w2 hg => (hg.block _ (lt_of hNa.cs) (fun e => by
              have e' : Q.nds a = w5.heap.size := by simpa [Value.ownBlock] using e
              have := lt_of (hR5.nd a e2).cs
              omega)).trans hNa.cs
            have hdn : ((S.nd b).log.length : Int) - ((S.nd a).log.length : Int) = (((S.nd b).log.length - (S.nd a).log.length : Nat) : Int) := by omega
            have HDn := Lib.hid hdn
            have HKA := Lib.hid hkA
            have HO := Lib.hid hown0
            have HN := Lib.hid hnews
            have HNl := Lib.hid hnl
            have HR5 := Lib.hid hR5
            have HB6 := Lib.hid hb6d
            have HBq := Lib.hid hbq
            have hlb0 : 0 < (S.nd b).log.length := by omega
            clear hnews hnl hget hR5 hR6 hb6 hb6d hbq hNa hNb hown0 hkA hdn
            go_wp2_with fail
            go_region_law
              ((refine step_append_lies _ (by rfl) (.tmp 77) (.tmp 87) 39 (by rfl) Q.B 9 ti _ 1 16 Tryz.underlying39 ti0 tz0 tz1 tz2 rfl (by omega) (.slice (some ⟨w5.heap.size, 0, none⟩) 0 0) 0 [] (by rfl) HO.out ⟨gb, 0, none⟩ (S.nd b).log.length cb (scs (S.nd b).log) (by rfl) HNl.out HN.out (scs_one _) hlb0 (by unfold maxLen; omega) (by omega) hsB6 (w5.heap.size + 1) (by simp) ?_; intro g2 cap2 w9 hown2 hgrow hat hltg; (have p1 := free_at (HKA.out w9 hgrow) 2); (have p2 : w9.cell? ⟨Q.nds a, 2, none⟩ = some (Q.lr a) := by rw [cell_at (HKA.out w9 hgrow)]; rfl); (have HRw := Lib.hid (HR5.out.below (below_grown HB6.out hgrow HB6.out.size (fun q hq => by simp only [Value.ownBlock, Option.some.injEq] at hq; omega)))); (have p3 := HRw.out.c0); (have p4 := HRw.out.nodeAt e2)))
            all_goals
              have hb9 : Below w5.heap.size w5 w9 := below_grown HB6.out hgrow HB6.out.size (fun q hq => by
                simp only [Value.ownBlock, Option.some.injEq] at hq; omega)
              have hcw := HR5.out.logged e2 hb9 (v := .slice (some ⟨g2, 0, none⟩) (0 + (S.nd b).log.length) cap2) (l := (S.nd b).log) (by
                unfold OwnsS
                have := hown2
                simp only [List.nil_append, Nat.zero_add] at this ⊢
                exact this) (fun q hq => by
                simp only [Value.ownBlock, Option.some.injEq] at hq hat
                omega)
              simp only [Nat.zero_add] at hcw
              go_wp2_with fail
              go_ret2
              first
                | exact ⟨_, by rw [← HDn.out]; rfl, hcw.1, (RT.of_below HBq.out).trans hcw.2⟩
                | exact ⟨by rw [← HDn.out]; rfl, _, hcw.1, (RT.of_below HBq.out).trans hcw.2⟩
          · rw [if_neg hlt]
            have hnI : ((S.nd b).log.length : Int) - ((S.nd a).log.length : Int) ≤ 0 := by omega
            have hd0 : (S.nd b).log.length - (S.nd a).log.length = 0 := by omega
            rw [hd0]
            go_enter Tryz.func26, Tryz.ntmps26
            go_wp2_with (first
              | (go_at_call 30; (with_reducible refine HH.out.mono ?_); rintro e w2 ⟨rfl, rfl⟩)
              | (go_at_call 30; (with_reducible refine HJ.out.mono ?_); rintro e w2 ⟨rfl, rfl⟩)
              | fail)
            go_quiet (fail)
            go_wp2_with fail
            go_ret2
            exact ⟨Q, rfl, HR.out.below (below_drewN (Below.refl _ _) _), RT.of_below (below_drewN (Below.refl _ _) _)⟩
end Go.Proofs.YtkcbmkedhipgeaaGreatDoor
