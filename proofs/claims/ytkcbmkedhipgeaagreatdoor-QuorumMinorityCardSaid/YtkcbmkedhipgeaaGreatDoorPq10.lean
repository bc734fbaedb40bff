/-
  Learn (package quorum), by a contract.
-/
import Derived.Test.YtkcbmkedhipgeaaGreatDoorPq9
import Derived.Test.YtkcbmkedhipgeaaGreatDoorPq7
import Derived.Deep.Upon
namespace Go.Proofs.YtkcbmkedhipgeaaGreatDoor
open Go.RowKit Go.ChangeMaps

/-- Nothing is appended, in a region that draws. -/
theorem step_noneS {ops : Array Oper} {o : Oper} {a : Act} {K : Act → World → Prop} {Q : Exit → Act → World → Prop} {E : Prop} {w : World} (hgd : o.guard = none) (s x : Operand) (ho : o.op = .call { callee := .builtin .append, args := #[s, x], argTypes := #[39, 39] })
    {A A' : Option Addr} {n cap c : Nat} (hs : a.eval s = .slice A n cap) (hle : n ≤ cap) (hx : a.eval x = .slice A' 0 c) (h : K (a.put o.dst (.slice A n cap)) w) :
    if Region.wanted o (yielded ops a.tmps) = true then Oper.wp Tryz.prog o a w K Q else E := by
  obtain ⟨i0, hi0, hz0, hz1, hz2⟩ := info_parts infoStr
  have hwt : Region.wanted o (yielded ops a.tmps) = true := by simp [Region.wanted, hgd]
  rw [if_pos hwt]
  have hr := run_append_nothing (P := Tryz.prog) w 39 39 o.type 9 i0 Tryz.underlying39 hi0 A n cap hle (.slice A' 0 c) (by
    rw [hz1]
    cases A' with
    | none => exact Src.ofNil w Tryz.underlying39 c
    | some ad => exact Src.ofSlice w Tryz.underlying39 _ 0 c [] (by simp) (by simp) (by simp))
  unfold Oper.wp execOp
  simp only [ho, resolve, invoke, builtin, Sem.run_bind, Sem.run_pure, Result.andThen_ok, List.map_toArray, List.map_cons, List.map_nil, hs, hx, hr]
  exact h
theorem grownBy_refl (w : World) (row : Option Nat) : w.grownBy w row := ⟨rfl, rfl, rfl, Nat.le_refl _, fun _ _ _ => rfl⟩
theorem nd_self {S : Gp} {k : Nat} {l : List ByteArray} (h : (S.nd k).log = l) : S.set k { S.nd k with log := l } = S := by
  obtain ⟨n, nd, all, tab⟩ := S
  unfold Gp.set
  congr
  funext j
  unfold at1
  split
  · rename_i e
    subst e
    simp only at h ⊢
    rw [← h]
  · rfl
/-- A slice's parts. -/
theorem OwnsS.parts {w : World} {base : Nat} {v : Value} {l : List ByteArray} (h : OwnsS w base v l) : (v = .slice none 0 0 ∧ l = []) ∨ ∃ g cap, v = .slice (some ⟨g, 0, none⟩) l.length cap ∧ g < w.heap.size ∧ l.length ≤ cap ∧ cap ≤ maxLen ∧ ∀ i x, l[i]? = some x → w.cell? ⟨g, i, none⟩ = some (.string x) := by
  have h' := h
  rcases h'.2 with ⟨hv, h0⟩ | ⟨g, cap, cur, hv, hb, hg, hn, hm, hs, ht⟩
  · exact .inl ⟨hv, List.length_eq_zero_iff.1 h0⟩
  · refine .inr ⟨g, cap, hv, lt_of hg, hn, hm, fun i x hx => ?_⟩
    obtain ⟨A, c, e, -, hget⟩ := h.form
    obtain ⟨g', hA, -, hc⟩ := hget i x hx
    rw [hA, hv] at e
    simp only [Value.slice.injEq, Option.some.injEq, Addr.mk.injEq, and_true, true_and] at e
    rw [e.1]; exact hc
set_option maxRecDepth 100000 in
set_option maxHeartbeats 4000000 in
theorem learn_any {w : World} {g : Nat} {S : Gp} {P : Pl} (h : PG w g S P) (hI : Inv S (rds S)) (hl : ∀ k, k < S.n → (S.nd k).log.length ≤ 4096) (i j : Int) :
    Calls Tryz.prog 22 #[.pointer (some ⟨g, 0, none⟩), .int .i64 i, .int .i64 j] w fun e w' => ∃ P', e = .returned (.tuple #[.int .i64 (leaE S i j).1, .int .i64 (leaE S i j).2]) ∧ PG w' g (leaS S i j) P' ∧ PT S.n P P' w w' := by
  have HH := Lib.hid (has_any h i)
  have HJ := Lib.hid (has_any h j)
  have HP := Lib.hid h
  have c0 := h.c0
  cases hh : S.has i with
  | false =>
    rw [hh] at HH
    have he : leaE S i j = (0, 3) := by unfold leaE; rw [if_pos (.inl hh)]
    have hs : leaS S i j = S := by unfold leaS; rw [he, if_neg (fun h => by cases h.1)]
    rw [he, hs]
    clear h he hs hI hl
    go_enter Tryz.func22, Tryz.ntmps22
    go_wp2_with (go_at_call 28; (with_reducible refine HH.out.mono ?_); rintro e w2 ⟨rfl, rfl⟩)
    go_ret2
    exact ⟨P, rfl, HP.out, PT.of_below (Below.refl _ _)⟩
  | true =>
    rw [hh] at HH
    cases hj : S.has j with
    | false =>
      rw [hj] at HJ
      have he : leaE S i j = (0, 3) := by unfold leaE; rw [if_pos (.inr hj)]
      have hs : leaS S i j = S := by unfold leaS; rw [he, if_neg (fun h => by cases h.1)]
      rw [he, hs]
      clear h he hs hI hl
      go_enter Tryz.func22, Tryz.ntmps22
      go_wp2_with (first
        | (go_at_call 28; (with_reducible refine HH.out.mono ?_); rintro e w2 ⟨rfl, rfl⟩)
        | (go_at_call 28; (with_reducible refine HJ.out.mono ?_); rintro e w2 ⟨rfl, rfl⟩)
        | fail)
      go_ret2
      exact ⟨P, rfl, HP.out, PT.of_below (Below.refl _ _)⟩
    | true =>
      rw [hj] at HJ
      obtain ⟨e1, e2⟩ := has_nat hh
      obtain ⟨hi0, hin⟩ := has_iff.1 hh
      obtain ⟨e3, e4⟩ := has_nat hj
      obtain ⟨hj0, hjn⟩ := has_iff.1 hj
      generalize hk : i.toNat = a at *
      generalize hm : j.toNat = b at *
      subst e1 e3
      have c1 := h.nodeAt e2
      have c2 := h.nodeAt e4
      have HUa := Lib.hid (show ∀ n, Calls Tryz.prog 33 #[.pointer (some ⟨P.nds a, 0, none⟩)] (w.drewN n) fun e w' => e = .returned (.bool (S.nd a).up) ∧ (w.drewN n) = w' from fun n => isUp_any ((h.below (below_drewN (Below.refl _ _) n)).nd a e2))
      have HUb := Lib.hid (show ∀ n, Calls Tryz.prog 33 #[.pointer (some ⟨P.nds b, 0, none⟩)] (w.drewN n) fun e w' => e = .returned (.bool (S.nd b).up) ∧ (w.drewN n) = w' from fun n => isUp_any ((h.below (below_drewN (Below.refl _ _) n)).nd b e4))
      have hle : leaE S (a : Int) (b : Int) = if (S.nd a).up = false ∨ (S.nd b).up = false then ((0 : Int), (70 : Int)) else ((((S.nd b).log.length - (S.nd a).log.length : Nat) : Int), (0 : Int)) := by
        unfold leaE; rw [if_neg (by rw [hh, hj]; decide)]; rfl
      have hls : leaS S (a : Int) (b : Int) = if (leaE S (a : Int) (b : Int)).2 = 0 ∧ (S.nd a).log.length < (S.nd b).log.length then S.set a { S.nd a with log := (S.nd b).log } else S := rfl
      cases hua : (S.nd a).up with
      | false =>
        rw [hua] at HUa
        rw [hua, if_pos (.inl rfl)] at hle
        rw [hle, if_neg (fun h => by cases h.1)] at hls
        rw [hle, hls]
        clear h hle hls hI hl hh hj hk hm hua
        go_enter Tryz.func22, Tryz.ntmps22
        go_wp2_with (first
          | (go_at_call 28; (with_reducible refine HH.out.mono ?_); rintro e w2 ⟨rfl, rfl⟩)
          | (go_at_call 28; (with_reducible refine HJ.out.mono ?_); rintro e w2 ⟨rfl, rfl⟩)
          | fail)
        go_quiet (fail)
        go_wp2_with (first
          | (go_at_call 33; (with_reducible refine (HUa.out _).mono ?_); rintro e w2 ⟨rfl, rfl⟩)
          | fail)
        go_ret2
        exact ⟨P, rfl, HP.out.below (below_drewN (Below.refl _ _) _), PT.of_below (below_drewN (Below.refl _ _) _)⟩
      | true =>
        rw [hua] at HUa
        cases hub : (S.nd b).up with
        | false =>
          rw [hub] at HUb
          rw [hub, if_pos (.inr rfl)] at hle
          rw [hle, if_neg (fun h => by cases h.1)] at hls
          rw [hle, hls]
          clear h hle hls hI hl hh hj hk hm hua hub
          go_enter Tryz.func22, Tryz.ntmps22
          go_wp2_with (first
            | (go_at_call 28; (with_reducible refine HH.out.mono ?_); rintro e w2 ⟨rfl, rfl⟩)
            | (go_at_call 28; (with_reducible refine HJ.out.mono ?_); rintro e w2 ⟨rfl, rfl⟩)
            | fail)
          go_quiet (fail)
          go_wp2_with (first
            | (go_at_call 33; (with_reducible refine (HUa.out _).mono ?_); rintro e w2 ⟨rfl, rfl⟩)
            | (go_at_call 33; (with_reducible refine (HUb.out _).mono ?_); rintro e w2 ⟨rfl, rfl⟩)
            | fail)
          go_ret2
          exact ⟨P, rfl, HP.out.below (below_drewN (Below.refl _ _) _), PT.of_below (below_drewN (Below.refl _ _) _)⟩
        | true =>
          rw [hub] at HUb
          rw [hua, hub, if_neg (by decide)] at hle
          rw [hle] at hls ⊢
          simp only [true_and] at hls
          rw [hls]
          have d1 := (h.nd a e2).c2
          have d2 := (h.nd b e4).c2
          obtain ⟨Aa, ca, hva, -⟩ := (h.nd a e2).log.form
          obtain ⟨Ab, cb, hvb, -⟩ := (h.nd b e4).log.form
          rw [hva] at d1
          rw [hvb] at d2
          have HI := Lib.hid hI
          have HL := Lib.hid hl
          have HVA := Lib.hid hva
          have HVB := Lib.hid hvb
          have hmax : max (((S.nd b).log.length : Int) - ((S.nd a).log.length : Int)) 0 = (((S.nd b).log.length - (S.nd a).log.length : Nat) : Int) := by omega
          have HMax := Lib.hid hmax
          have hla := hl a e2
          have hlb := hl b e4
          clear h hle hls hI hl hh hj hk hm hua hub hmax hva hvb
          go_enter Tryz.func22, Tryz.ntmps22
          go_wp2_with (first
            | (go_at_call 28; (with_reducible refine HH.out.mono ?_); rintro e w2 ⟨rfl, rfl⟩)
            | (go_at_call 28; (with_reducible refine HJ.out.mono ?_); rintro e w2 ⟨rfl, rfl⟩)
            | fail)
          go_quiet (fail)
          obtain ⟨m1, rfl⟩ : ∃ m, m = nq := ⟨_, rfl⟩
          go_wp2_with (first
            | (go_at_call 33; (with_reducible refine (HUa.out _).mono ?_); rintro e w2 ⟨rfl, rfl⟩)
            | (go_at_call 33; (with_reducible refine (HUb.out _).mono ?_); rintro e w2 ⟨rfl, rfl⟩)
            | fail)
          go_quiet (fail)
          have hbq : Below w.heap.size w ((w.drewN m1).drewN nq) := below_drewN (below_drewN (Below.refl _ _) m1) nq
          have hP7 := HP.out.below hbq
          rw [HMax.out]
          generalize (w.drewN m1).drewN nq = w7 at hbq hP7 ⊢
          clear HUa HUb HH HJ c0 c1 c2 d1 d2
          have hbd : Below w7.heap.size w7 w7.drew := (Below.refl _ _).drew
          have hPd := hP7.below hbd
          have hNa := hPd.nd a e2
          have hNb := hPd.nd b e4
          have d1 := hNa.c2
          have d2 := hNb.c2
          rw [HVA.out] at d1
          rw [HVB.out] at d2
          obtain ⟨ti, ti0, tz0, tz1, tz2⟩ := info_parts infoStr
          have hsB : P.B ≤ w7.drew.heap.size := by have := hNa.lo; have := lt_of hNa.cs; omega
          have HPd := Lib.hid hPd
          have HBq := Lib.hid hbq
          by_cases hlt : (S.nd a).log.length < (S.nd b).log.length
          · have hpre := HI.out.prefix_ e2 e4 (Nat.le_of_lt hlt)
            have hown := hNa.log
            rw [HVA.out] at hown
            rcases hNb.log.parts with ⟨-, h0⟩ | ⟨gb, cap, hvb, hgb, hcl, hcm, hget⟩
            · rw [h0] at hlt; simp at hlt
            have hvb' := hvb
            rw [HVB.out] at hvb'
            simp only [Value.slice.injEq, true_and] at hvb'
            obtain ⟨rfl, rfl⟩ := hvb'
            have hnews : ∀ j u, (scs ((S.nd b).log.drop (S.nd a).log.length))[j]? = some u → w7.drew.cell? ((⟨gb, (S.nd a).log.length, none⟩ : Addr).add j) = some u := fun j u hu => by
              unfold scs at hu
              rw [List.getElem?_map, List.getElem?_drop] at hu
              cases hq : (S.nd b).log[(S.nd a).log.length + j]? with
              | none => rw [hq] at hu; cases hu
              | some y =>
                rw [hq] at hu
                simp only [Option.map_some, Option.some.injEq] at hu
                subst hu
                have hadd : (⟨gb, (S.nd a).log.length, none⟩ : Addr).add j = ⟨gb, (S.nd a).log.length + j, none⟩ := by unfold Addr.add; split <;> simp_all
                rw [hadd]
                exact hget _ _ hq
            have hnl : (scs ((S.nd b).log.drop (S.nd a).log.length)).length = ((S.nd b).log.length - (S.nd a).log.length) * 1 := by rw [scs_len, List.length_drop]; omega
            have hall : (S.nd a).log ++ (S.nd b).log.drop (S.nd a).log.length = (S.nd b).log := by
              conv => lhs; lhs; rw [← hpre]
              exact List.take_append_drop _ _
            have hcat : scs (S.nd a).log ++ scs ((S.nd b).log.drop (S.nd a).log.length) = scs (S.nd b).log := by unfold scs; rw [← List.map_append, hall]
            obtain ⟨d, hd⟩ : ∃ d, (S.nd b).log.length - (S.nd a).log.length = d := ⟨_, rfl⟩
            rw [hd] at hnl ⊢
            have HD := Lib.hid hd
            have h70 : ((S.nd b).log.length : Int) - (d : Int) = ((S.nd a).log.length : Int) := by omega
            have hw70 : IntKind.i64.wrap ((S.nd a).log.length : Int) = ((S.nd a).log.length : Int) := IntWalk.i64_in _ (by omega)
            have hle70 : (S.nd a).log.length ≤ (S.nd b).log.length := Nat.le_of_lt hlt
            have hne70 : ¬ cb = (S.nd a).log.length := by omega
            have hkA : ∀ (w2 : World), w7.drew.grownBy w2 (Value.ownBlock (.slice Aa (S.nd a).log.length ca)) → w2.heap[P.nds a]? = some (.cells (nodeC P a (S.nd a)) 62 (0, 0)) := fun w2 hg => (hg.block _ (lt_of hNa.cs) (fun e => by
              obtain ⟨cur, h3⟩ := hown.ty e.symm
              rw [hNa.cs] at h3
              injection h3 with h3
              injection h3 with _ h4
              exact absurd h4 (by decide))).trans hNa.cs
            have HKA := Lib.hid hkA
            have HO := Lib.hid hown
            have HN := Lib.hid hnews
            have HNl := Lib.hid hnl
            have HCat := Lib.hid hcat
            clear hkA hnews hnl hcat hall hpre hget hPd hP7 hbd hbq hNa hNb hown
            go_wp2_with fail
            go_region_law
              ((refine step_append_lies _ (by rfl) (.tmp 59) (.tmp 71) 39 (by rfl) P.B 9 ti _ 1 16 Tryz.underlying39 ti0 tz0 tz1 tz2 rfl (by omega) (.slice Aa (S.nd a).log.length ca) (S.nd a).log.length (scs (S.nd a).log) (by rfl) HO.out ⟨gb, (S.nd a).log.length, none⟩ d (cb - (S.nd a).log.length) (scs ((S.nd b).log.drop (S.nd a).log.length)) (by rfl) HNl.out HN.out (scs_one _) (by omega) (by unfold maxLen; omega) (by omega) hsB w7.heap.size (by rfl) ?_; intro g2 cap2 w9 hown2 hgrow hat hltg; (have p1 := free_at (HKA.out w9 hgrow) 2); (have p2 : w9.cell? ⟨P.nds a, 2, none⟩ = some (P.lr a) := by rw [cell_at (HKA.out w9 hgrow)]; rfl)))
            all_goals
              have hcw := HPd.out.logged e2 (by rw [HVA.out]; exact hgrow) (v := .slice (some ⟨g2, 0, none⟩) ((S.nd a).log.length + d) cap2) (l := (S.nd b).log) (by
                have hld : (S.nd b).log.length = (S.nd a).log.length + d := by have := HD.out; omega
                unfold OwnsS
                rw [← HCat.out, hld]
                exact hown2) (fun q hq => by
                simp only [Value.ownBlock, Option.some.injEq] at hq
                subst hq
                rw [HVA.out]
                rcases hat with e | e
                · exact .inl e
                · right; rw [e]; exact Nat.le_refl _)
              go_wp2_with fail
              go_ret2
              refine ⟨by first | rfl | (rw [HD.out]; rfl), { P with lr := at1 P.lr a (.slice (some ⟨g2, 0, none⟩) ((S.nd a).log.length + d) cap2) }, ?_, ?_⟩
              · first | exact hcw.1 | (rw [if_pos hlt]; exact hcw.1)
              · exact (PT.of_below HBq.out.drew).trans hcw.2
          · have hd0 : (S.nd b).log.length - (S.nd a).log.length = 0 := by omega
            rw [hd0]
            have hown := hNa.log
            rw [HVA.out] at hown
            have hca : (S.nd a).log.length ≤ ca := by
              rcases hNa.log.parts with ⟨hv, h0⟩ | ⟨ga, cap, hv, -, h3, -, -⟩
              · rw [h0]; exact Nat.zero_le _
              · rw [HVA.out] at hv
                simp only [Value.slice.injEq] at hv
                omega
            have hw70 : IntKind.i64.wrap ((S.nd b).log.length : Int) = ((S.nd b).log.length : Int) := IntWalk.i64_in _ (by omega)
            have p1 := free_at hNa.cs 2
            have p2 : w7.drew.cell? ⟨P.nds a, 2, none⟩ = some (P.lr a) := by rw [cell_at hNa.cs]; rfl
            have HO := Lib.hid hown
            have HD0 := Lib.hid hd0
            have hend := HPd.out.logged (w2 := w7.drew) e2 (grownBy_refl _ _) (v := .slice Aa (S.nd a).log.length ca) (l := (S.nd a).log) HO.out (fun q hq => .inl (by rw [HVA.out]; exact hq))
            rw [nd_self rfl] at hend
            have HEnd := Lib.hid hend
            have hparts := hNb.log.parts
            rw [HVB.out] at hparts
            have HLt := Lib.hid hlt
            clear hd0 hend hPd hP7 hbd hbq hNa hNb hown p2 hlt
            rcases hparts with ⟨hvb, h0⟩ | ⟨gb, cap, hvb, -, hcl, -, -⟩
            · simp only [Value.slice.injEq] at hvb
              obtain ⟨rfl, h0', rfl⟩ := hvb
              rw [h0'] at d2 hw70 ⊢
              clear h0 h0'
              have hw0 : IntKind.i64.wrap 0 = 0 := by rfl
              go_wp2_with fail
              go_region_law ((refine step_noneS (by rfl) (.tmp 59) (.tmp 71) (by rfl) (by rfl) hca (by rfl) ?_))
              all_goals
                go_wp2_with fail
                go_ret2
                refine ⟨by first | rfl | (rw [HD0.out]; rfl), { P with lr := at1 P.lr a (.slice Aa (S.nd a).log.length ca) }, ?_, ?_⟩
                · first | exact HEnd.out.1 | (rw [if_neg HLt.out]; exact HEnd.out.1)
                · exact (PT.of_below HBq.out.drew).trans HEnd.out.2
            · simp only [Value.slice.injEq, true_and] at hvb
              obtain ⟨rfl, rfl⟩ := hvb
              by_cases hcb : cb = (S.nd b).log.length
              · go_wp2_with fail
                go_region_law ((refine step_noneS (by rfl) (.tmp 59) (.tmp 71) (by rfl) (by rfl) hca (by rfl) ?_))
                all_goals
                  go_wp2_with fail
                  go_ret2
                  refine ⟨by first | rfl | (rw [HD0.out]; rfl), { P with lr := at1 P.lr a (.slice Aa (S.nd a).log.length ca) }, ?_, ?_⟩
                  · first | exact HEnd.out.1 | (rw [if_neg HLt.out]; exact HEnd.out.1)
                  · exact (PT.of_below HBq.out.drew).trans HEnd.out.2
              · go_wp2_with fail
                go_region_law ((refine step_noneS (by rfl) (.tmp 59) (.tmp 71) (by rfl) (by rfl) hca (by rfl) ?_))
                all_goals
                  go_wp2_with fail
                  go_ret2
                  refine ⟨by first | rfl | (rw [HD0.out]; rfl), { P with lr := at1 P.lr a (.slice Aa (S.nd a).log.length ca) }, ?_, ?_⟩
                  · first | exact HEnd.out.1 | (rw [if_neg HLt.out]; exact HEnd.out.1)
                  · exact (PT.of_below HBq.out.drew).trans HEnd.out.2
end Go.Proofs.YtkcbmkedhipgeaaGreatDoor
