/-
  BallotChooses (weirkeeplaw10), walked.
-/
import Derived.Test.YtacbodojbekeeaaDoorBoth10
import Derived.Test.YtacbodojbekeeaaDoorRcho
import Derived.Test.YtacbodojbekeeaaDoorRws
import Derived.BigQuiet
import Derived.Deep.LoopGhost
import Derived.Deep.CutBlock
import Derived.Deep.DeepCutAuto
namespace Go.Proofs.YtacbodojbekeeaaDoor
open Go.RowKit

theorem row_reads {w : World} {A : Option Addr} {n : Nat} {B : Nat → Option Addr} {L C : Nat → Nat} {z : Nat → Nat → V} (h : Sets w A n B L C z) {i : Nat} (hi : i < n) :
    ∀ k m, (rowL L z i)[k]? = some m → ∃ g o, B i = some ⟨g, o, none⟩ ∧ g < w.heap.size ∧ VAt w g (o + k * 3) m := fun k m hm => by
  have hk : k < L i := by have := (List.getElem?_eq_some_iff.1 hm).1; rwa [rowL_len] at this
  rw [rowL_get L z i k hk] at hm
  obtain rfl := Option.some.inj hm
  exact (h i hi).2.2 k hk

set_option maxRecDepth 100000 in
set_option maxHeartbeats 8000000 in
theorem ballotChooses_any (A : Option Addr) (n c : Nat) (s : (Nat → Option Addr) × (Nat → Nat) × (Nat → Nat) × (Nat → Nat → V)) (sl : Int) (w : World) (hT : Tab w) (hE : ErrType w) (hS : Sets w A n s.1 s.2.1 s.2.2.1 s.2.2.2) (hn : n ≤ 9223372036854775807) :
    Calls Tryd.prog 6 #[.slice A n c, .int .i64 sl] w fun e w' => e = .returned (.bool true) ∧ Below w.heap.size w w' := by
  obtain ⟨B, L, C, z⟩ := s
  have hS' : Sets w A n B L C z := hS
  have HSh := Lib.hid (fun (W : World) (hb : Below w.heap.size w W) => shown_any W (hT.below hb) (hE.kept (hb.block _ hE.lt)))
  have HS := Lib.hid hS'
  obtain ⟨ti, ti0, tz0, tz1, tz2⟩ := info_parts infoS
  clear hT hE hS hS'
  by_cases h10 : n ≤ 10
  case neg =>
    have h10I : (10 : Int) < (n : Int) := by omega
    go_enter Tryd.func6, Tryd.ntmps6
    go_wp2_with (go_at_call 10; refine (HSh.out _ (Below.refl _ _)).mono ?_; rintro e w' ⟨rfl, hb⟩; have HBs := Lib.hid hb; clear hb)
    go_ret
    exact ⟨rfl, HBs.out⟩
  have h10I : ¬ (10 : Int) < (n : Int) := by omega
  go_enter Tryd.func6, Tryd.ntmps6
  go_wp2_with fail
  go_at_call 10
  refine (HSh.out _ (Below.refl _ _)).mono ?_
  rintro e w1 ⟨rfl, hb1⟩
  have HB1 := Lib.hid hb1
  clear hb1
  have HR0 := Lib.hid (Rws.start (L := L) (z := z) (base := w.heap.size) HB1.out.size)
  have HB0 := Lib.hid (HB1.out.trans ((below_row0 w1 (.cells #[] 28)).mono HB1.out.size))
  go_wp2
  go_loopw [5, 6] (fun uv iv wr => ∃ (i : Nat) (sv : Nat → Value) (u : Value), i ≤ n ∧ u = uv ∧ iv = .int .i64 i ∧ Rws wr w.heap.size u L z i sv ∧ (∀ j, j < i → L j ≤ 30) ∧ Below w.heap.size w wr) (fun _ iv _ => n - (RowKit.intOf iv).toNat)
  case atStart => exact ⟨0, _, _, Nat.zero_le _, rfl, rfl, HR0.out, fun j hj => by omega, HB0.out⟩
  case round =>
    obtain ⟨i, sv, u, hi, rfl, rfl, hrw, hlo, hb⟩ := hrel
    have HR := Lib.hid hrw
    have HB := Lib.hid hb
    have HL := Lib.hid hlo
    clear hrw hb hlo HR0 HB0 HB1
    by_cases hlt : i < n
    · have hiI : (i : Int) < (n : Int) := by omega
      have hi0 : (0 : Int) ≤ (i : Int) := by omega
      obtain ⟨⟨g, off, rfl, hg, hc⟩, -, -⟩ := HS.out i hlt
      obtain ⟨Bi, hBi⟩ : ∃ x, B i = x := ⟨_, rfl⟩
      obtain ⟨Li, hLi⟩ : ∃ x, L i = x := ⟨_, rfl⟩
      obtain ⟨Ci, hCi⟩ : ∃ x, C i = x := ⟨_, rfl⟩
      rw [hBi, hLi, hCi] at hc
      have HC := Lib.hid (fun (W : World) (hW : Below w.heap.size w W) => ((hW.cell (p := ⟨g, off + i, none⟩) hg).trans hc : W.cell? ⟨g, off + i, none⟩ = _))
      have HBi := Lib.hid hBi
      have HLi := Lib.hid hLi
      clear hBi hLi hCi hc
      have hc1 := HC.out _ HB.out
      by_cases h30 : Li ≤ 30
      case neg =>
        have h30I : (30 : Int) < (Li : Int) := by omega
        go_wp2_with (go_at_call 10; refine (HSh.out _ HB.out).mono ?_; rintro e w' ⟨rfl, hb⟩; have HBs := Lib.hid (HB.out.trans (hb.mono HB.out.size)); clear hb)
        go_ret
        exact ⟨rfl, HBs.out⟩
      have h30I : ¬ (30 : Int) < (Li : Int) := by omega
      go_wp2
      go_loopw [7] (fun kv wk => ∃ k : Nat, k ≤ Li ∧ kv = .int .i64 k ∧ Rws wk w.heap.size u L z i sv ∧ Below w.heap.size w wk) (fun kv _ => Li - (RowKit.intOf kv).toNat)
      case atStart => exact ⟨0, Nat.zero_le _, rfl, HR.out, HB.out⟩
      case round =>
        obtain ⟨k, hk, rfl, hrw, hb⟩ := hrel
        have KR := Lib.hid hrw
        have KB := Lib.hid hb
        clear hrw hb HR HB hc1
        have hc1 := HC.out _ KB.out
        by_cases hlk : k < Li
        · have hkI : (k : Int) < (Li : Int) := by omega
          have hk0 : (0 : Int) ≤ (k : Int) := by omega
          obtain ⟨-, -, hz⟩ := (HS.out.below KB.out) i hlt
          obtain ⟨g', o', e', hg', hv⟩ := hz k (by rw [HLi.out]; exact hlk)
          rw [HBi.out] at e'
          subst e'
          obtain ⟨⟨xs, xb, xx⟩, hx⟩ : ∃ x, z i k = x := ⟨_, rfl⟩
          rw [hx] at hv
          obtain ⟨d0, d1, d2⟩ := hv
          have d1' : wr.cell? ⟨g', o' + k * 3 + 1, none⟩ = some (.int .i64 xb) := d1
          clear hz hx d0 d1 d2
          by_cases hb1 : xb < 1
          · go_wp2_with (go_at_call 10; refine (HSh.out _ KB.out).mono ?_; rintro e w' ⟨rfl, hb⟩; have HBs := Lib.hid (KB.out.trans (hb.mono KB.out.size)); clear hb)
            go_ret
            exact ⟨rfl, HBs.out⟩
          · go_wp2
            go_roundw
            case rel => exact ⟨k + 1, by omega, by go_num, KR.out, KB.out⟩
            case measure => simp only [RowKit.intOf]; omega
        · obtain rfl : k = Li := by omega
          have hkI : ¬ (k : Int) < (k : Int) := by omega
          have hth := theirs_row (c := Ci) (row_reads (HS.out.below KB.out) hlt) (by rw [rowL_len, HLi.out]; omega)
          rw [rowL_len, HLi.out, HBi.out] at hth
          have HTh := Lib.hid hth
          clear hth
          go_wp2_with fail
          go_at_call 16
          refine HTh.out.mono ?_
          rintro e w5 ⟨v, rfl, k1, k2⟩
          have R5 := Lib.hid (KR.out.below k2)
          have B5 := Lib.hid (KB.out.trans (k2.mono KB.out.size))
          obtain ⟨Av, cv, rfl, -⟩ := vshape k1
          have V5 := Lib.hid (k1.mono (Nat.zero_le _))
          generalize hN : (rowL L z i).length = N at V5 ⊢
          clear k1 k2 HTh KR KB hc1 hN
          have HRn := Lib.hid (R5.out.below (below_row0 w5 (.cells #[.slice Av N cv] 28)))
          have HVn := Lib.hid (OwnsV.below (below_row0 w5 (.cells #[.slice Av N cv] 28)) V5.out)
          go_wp2_with (at_builtin; refine wpList_append_lies _ rfl (.tmp 55) (.tmp 61) 60 rfl w.heap.size 28 ti _ 1 24 Tryd.underlying60 ti0 tz0 tz1 tz2 rfl (by decide) _ _ _ rfl HRn.out.1 ⟨w5.heap.size, 0, none⟩ 1 1 [.slice Av N cv] rfl rfl (World.news_of_block (heap_alloc_new w5 _)) (by intro x hx; obtain rfl := List.mem_singleton.1 hx; rfl) (by decide) (by unfold maxLen; omega) (by omega) (by have := B5.out.size; simp; omega) (w5.heap.size + 1) (by simp) ?_; intro g2 cap w6 hown hgrow _ _; (have K2 := Lib.hid (below_grown (B5.out.trans ((below_row0 w5 _).mono B5.out.size)) hgrow (by have := B5.out.size; simp; omega) (fun q hq => (World.ownsRow.lt R5.out.1 q hq).1))); have K3 := Lib.hid (HRn.out.more HVn.out hown hgrow); clear hown hgrow)
          go_roundw
          case rel => exact ⟨i + 1, _, _, by omega, rfl, by go_num, K3.out, fun j hj => by (by_cases e : j = i); (· rw [e, HLi.out]; omega); (· exact HL.out j (by omega)), K2.out⟩
          case measure => simp only [RowKit.intOf]; omega
    · obtain rfl : i = n := by omega
      have hiI : ¬ (i : Int) < (i : Int) := by omega
      obtain ⟨Au, cu, rfl, hst⟩ := HR.out.sets HL.out
      have HW := Lib.hid hst
      obtain ⟨R, hR⟩ : ∃ R, cho (cat L z i) sl = R := ⟨_, rfl⟩
      have hch := choose_any (c := c) sl wr (HS.out.below HB.out) hn
      have hrc := fun (W : World) (hW : Below wr.heap.size wr W) => rchoose_any (c := cu) sl W (hst.below hW) hn
      rw [hR] at hch
      simp only [hR] at hrc
      obtain ⟨q, hq⟩ : ∃ q, R.getD V.zero = q := ⟨_, rfl⟩
      obtain ⟨fo, hfo⟩ : ∃ fo, R.isSome = fo := ⟨_, rfl⟩
      rw [hq, hfo] at hch
      simp only [hq, hfo] at hrc
      have HMax := Lib.hid (fun (j k : Nat) (hj : j < i) (hk : k < L j) (hs : (z j k).s = sl) => (show fo = true ∧ (z j k).b ≤ q.b from by
        obtain ⟨x, hx, hxb⟩ := cho_max (mem_cat (L := L) (z := z) hj hk) hs
        rw [hR] at hx
        subst hx
        obtain rfl : x = q := hq
        exact ⟨hfo.symm, hxb⟩))
      obtain ⟨qs, qb, qx⟩ := q
      have hch2 : Calls Tryd.prog 28 #[.slice A i c, .int .i64 sl] wr fun e w' => e = .returned (.tuple #[.agg #[.int .i64 qs, .int .i64 qb, .string qx], .bool fo]) ∧ Below wr.heap.size wr w' := hch
      have hrc2 : ∀ (W : World) (hW : Below wr.heap.size wr W), Calls Tryd.prog 29 #[.slice Au i cu, .int .i64 sl] W fun e w' => e = .returned (.tuple #[.agg #[.int .i64 qs, .int .i64 qb, .string qx], .bool fo]) ∧ Below W.heap.size W w' := hrc
      have HCh := Lib.hid hch2
      have HRc := Lib.hid hrc2
      have hne : ∀ W : World, (binOp .neq 46 (.agg #[.int .i64 qs, .int .i64 qb, .string qx]) (.agg #[.int .i64 qs, .int .i64 qb, .string qx])).run Tryd.prog W = .ok (.bool false) W := fun W => by
        have := rv_neq ⟨qs, qb, qx⟩ ⟨qs, qb, qx⟩ W
        rw [decide_eq_true rfl] at this
        exact this
      have hfe : (fo != fo) = false := by cases fo <;> rfl
      have HNe := Lib.hid hne
      clear hch hch2 hrc hrc2 hq hfo hR hst HR hne
      go_wp2_with fail
      go_at_call 28
      refine HCh.out.mono ?_
      rintro e w5 ⟨rfl, k1⟩
      have hal := below_row0 w5 (.cells #[.int .i64 qs, .int .i64 qb, .string qx] 32)
      have C6 := Lib.hid (k1.trans (hal.mono k1.size))
      have B6 := Lib.hid (HB.out.trans (C6.out.mono HB.out.size))
      have A6 := Lib.hid (show AV 32 (w5.alloc (.cells #[.int .i64 qs, .int .i64 qb, .string qx] 32)) w5.heap.size ⟨qs, qb, qx⟩ from AV.fresh 32 w5 ⟨qs, qb, qx⟩)
      clear k1 hal HCh HB
      go_wp2_with fail
      generalize w5.alloc (.cells #[.int .i64 qs, .int .i64 qb, .string qx] 32) = w6 at C6 B6 A6 ⊢
      generalize w5.heap.size = b8 at A6 ⊢
      go_at_call 29
      refine (HRc.out _ C6.out).mono ?_
      rintro e w7 ⟨rfl, k1⟩
      have hal := below_row0 w7 (.cells #[.int .i64 qs, .int .i64 qb, .string qx] 46)
      have B8 := Lib.hid ((B6.out.trans (k1.mono B6.out.size)).trans (hal.mono (B6.out.trans (k1.mono B6.out.size)).size))
      have A8 := Lib.hid ((A6.out.below k1).below hal)
      have hne := HNe.out
      obtain ⟨c0, c1, c2⟩ := A8.out.all
      obtain ⟨d0, d1, d2⟩ := (show AV 46 (w7.alloc (.cells #[.int .i64 qs, .int .i64 qb, .string qx] 46)) w7.heap.size ⟨qs, qb, qx⟩ from AV.fresh 46 w7 ⟨qs, qb, qx⟩).all
      clear k1 hal HRc HNe C6 B6 A6
      go_wp2
      clear hne c0 c1 c2 d0 d1 d2 hfe
      generalize w7.alloc (.cells #[.int .i64 qs, .int .i64 qb, .string qx] 46) = w8 at B8 A8 ⊢
      go_loopw [12] (fun jv wk => ∃ j : Nat, j ≤ i ∧ jv = .int .i64 j ∧ AV 32 wk b8 ⟨qs, qb, qx⟩ ∧ Below w.heap.size w wk) (fun jv _ => i - (RowKit.intOf jv).toNat)
      case atStart => exact ⟨0, Nat.zero_le _, rfl, A8.out, B8.out⟩
      case round =>
        obtain ⟨j, hj, rfl, ha, hb⟩ := hrel
        have HA := Lib.hid ha
        have HB := Lib.hid hb
        clear ha hb A8 B8
        by_cases hlj : j < i
        · have hjI : (j : Int) < (i : Int) := by omega
          have hj0 : (0 : Int) ≤ (j : Int) := by omega
          obtain ⟨⟨g, off, rfl, hg, hc⟩, -, -⟩ := HS.out j hlj
          obtain ⟨Bi, hBi⟩ : ∃ x, B j = x := ⟨_, rfl⟩
          obtain ⟨Li, hLi⟩ : ∃ x, L j = x := ⟨_, rfl⟩
          obtain ⟨Ci, hCi⟩ : ∃ x, C j = x := ⟨_, rfl⟩
          rw [hBi, hLi, hCi] at hc
          have hL30 : Li ≤ 30 := by have := HL.out j hlj; rw [hLi] at this; exact this
          have HC := Lib.hid (fun (W : World) (hW : Below w.heap.size w W) => ((hW.cell (p := ⟨g, off + j, none⟩) hg).trans hc : W.cell? ⟨g, off + j, none⟩ = _))
          have HBi := Lib.hid hBi
          have HLi := Lib.hid hLi
          clear hBi hLi hCi hc
          go_wp2
          go_loopw [13] (fun kv wk => ∃ k : Nat, k ≤ Li ∧ kv = .int .i64 k ∧ AV 32 wk b8 ⟨qs, qb, qx⟩ ∧ Below w.heap.size w wk) (fun kv _ => Li - (RowKit.intOf kv).toNat)
          case atStart => exact ⟨0, Nat.zero_le _, rfl, HA.out, HB.out⟩
          case round =>
            obtain ⟨k, hk, rfl, ha, hb⟩ := hrel
            have KA := Lib.hid ha
            have KB := Lib.hid hb
            clear ha hb HA HB
            have hc1 := HC.out _ KB.out
            by_cases hlk : k < Li
            · have hkI : (k : Int) < (Li : Int) := by omega
              have hk0 : (0 : Int) ≤ (k : Int) := by omega
              obtain ⟨-, -, hz⟩ := (HS.out.below KB.out) j hlj
              obtain ⟨g', o', e', hg', hv⟩ := hz k (by rw [HLi.out]; exact hlk)
              rw [HBi.out] at e'
              subst e'
              obtain ⟨⟨xs, xb, xx⟩, hx⟩ : ∃ x, z j k = x := ⟨_, rfl⟩
              rw [hx] at hv
              obtain ⟨d0, d1, d2⟩ := hv
              have d0' : wr.cell? ⟨g', o' + k * 3, none⟩ = some (.int .i64 xs) := d0
              have d1' : wr.cell? ⟨g', o' + k * 3 + 1, none⟩ = some (.int .i64 xb) := d1
              obtain ⟨c0, c1, c2⟩ := KA.out.all
              have c1' : wr.cell? ⟨b8, 1, none⟩ = some (.int .i64 qb) := c1
              have KD := Lib.hid (fun m : Nat => below_drewN (Below.refl wr.heap.size wr) m)
              by_cases hs : xs = sl
              · obtain ⟨rfl, hle⟩ := HMax.out j k hlj (by rw [HLi.out]; exact hlk) (by rw [hx]; exact hs)
                have hle' : ¬ qb < xb := by rw [hx] at hle; have : xb ≤ qb := hle; omega
                subst hs
                clear hz hx d0 d1 d2 c0 c1 c2 hle HMax
                go_wp2
                go_quiet (fail)
                go_wp2
                go_roundw
                case rel => exact ⟨k + 1, by omega, by go_num, KA.out.below (KD.out _), KB.out.trans ((KD.out _).mono KB.out.size)⟩
                case measure => simp only [RowKit.intOf]; omega
              · have hsd : (xs == sl) = false := by simp [hs]
                clear hz hx d0 d1 d2 c0 c1 c2 HMax
                go_wp2
                go_quiet (fail)
                go_wp2
                go_roundw
                case rel => exact ⟨k + 1, by omega, by go_num, KA.out.below (KD.out _), KB.out.trans ((KD.out _).mono KB.out.size)⟩
                case measure => simp only [RowKit.intOf]; omega
            · obtain rfl : k = Li := by omega
              have hkI : ¬ (k : Int) < (k : Int) := by omega
              go_wp2
              go_roundw
              case rel => exact ⟨j + 1, by omega, by go_num, KA.out, KB.out⟩
              case measure => simp only [RowKit.intOf]; omega
        · obtain rfl : j = i := by omega
          have hjI : ¬ (j : Int) < (j : Int) := by omega
          go_wp2
          go_ret
          exact ⟨rfl, HB.out⟩
end Go.Proofs.YtacbodojbekeeaaDoor
