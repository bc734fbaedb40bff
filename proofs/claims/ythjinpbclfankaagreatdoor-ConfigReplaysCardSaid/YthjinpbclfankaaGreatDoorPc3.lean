/-
  slices.Clone at numbers and at parts, join (package config), by contracts.
-/
import Derived.Test.YthjinpbclfankaaGreatDoorPc2
import Derived.WalkSpells
namespace Go.Proofs.YthjinpbclfankaaGreatDoor
open Go.RowKit

theorem InI.slice {w : World} {v : Value} {l : List Int} (h : InI w v l) (hne : l ≠ []) : ∃ g o c, v = .slice (some ⟨g, o, none⟩) l.length c ∧ g < w.heap.size ∧ ∀ i x, l[i]? = some x → w.cell? ⟨g, o + i, none⟩ = some (.int .i64 x) := by
  obtain ⟨A, c, rfl, hc⟩ := h
  obtain ⟨x, hx⟩ : ∃ x, l[0]? = some x := by cases l with | nil => exact absurd rfl hne | cons x l => exact ⟨x, rfl⟩
  obtain ⟨g, o, rfl, hg, -⟩ := hc 0 x hx
  refine ⟨g, o, c, rfl, hg, fun i x hx => ?_⟩
  obtain ⟨g', o', e, -, hx⟩ := hc i x hx
  simp only [Option.some.injEq, Addr.mk.injEq, and_true] at e
  obtain ⟨rfl, rfl⟩ := e
  exact hx
theorem InP.slice {w : World} {v : Value} {l : List Pt} (h : InP w v l) (hne : l ≠ []) : ∃ g o c, v = .slice (some ⟨g, o, none⟩) l.length c ∧ g < w.heap.size := by
  obtain ⟨A, c, rfl, hc⟩ := h
  obtain ⟨x, hx⟩ : ∃ x, l[0]? = some x := by cases l with | nil => exact absurd rfl hne | cons x l => exact ⟨x, rfl⟩
  obtain ⟨g, o, rfl, hg, -⟩ := hc 0 x hx
  exact ⟨g, o, c, rfl, hg⟩
theorem OwnsP.below {e : TypeId} {w w' : World} {base : Nat} {v : Value} {l : List Pt} (h : OwnsP e w base v l) (hb : Below w.heap.size w w') : OwnsP e w' base v l := owns_below hb h
theorem OwnsP.lt {e : TypeId} {w : World} {base : Nat} {v : Value} {l : List Pt} (h : OwnsP e w base v l) {g : Nat} (hg : v.ownBlock = some g) : base ≤ g ∧ g < w.heap.size := World.ownsRow.lt h g hg
theorem OwnsI.lt {w : World} {base : Nat} {v : Value} {l : List Int} (h : OwnsI w base v l) {g : Nat} (hg : v.ownBlock = some g) : base ≤ g ∧ g < w.heap.size := World.ownsRow.lt h g hg

set_option maxRecDepth 100000 in
theorem cloneI_any {w : World} {v : Value} {l : List Int} (h : InI w v l) (hne : l ≠ []) (hl : l.length ≤ 100000) :
    Calls Tryz.prog 43 #[v] w fun e w' => ∃ v', e = .returned v' ∧ OwnsI w' w.heap.size v' l ∧ Below w.heap.size w w' := by
  obtain ⟨i0, hi0, hz0, hz1, hz2⟩ := info_parts infoInt
  have hq := fun a n c => Lib.run_eql_slice_nil (P := Tryz.prog) w 38 3 a n c 0 0 Tryz.underlying38
  obtain ⟨g, o, c, rfl, hg, hc⟩ := h.slice hne
  have hb1 : Below w.heap.size w (w.alloc (.cells #[] 3)) := (Below.refl _ _).alloc (Nat.le_refl _) _
  have HB1 := Lib.hid hb1
  have HN := Lib.hid (fun (j : Nat) (u : Value) (hu : (l.map (Value.int .i64))[j]? = some u) => show (w.alloc (.cells #[] 3)).cell? ((⟨g, o, none⟩ : Addr).add j) = some u from by
    rw [List.getElem?_map] at hu
    obtain ⟨x, hx, rfl⟩ := Option.map_eq_some_iff.1 hu
    rw [Go.WideShapes.add_plain]
    exact (hb1.cell (p := ⟨g, o + j, none⟩) hg).trans (hc j x hx))
  have HE := Lib.hid (World.ownsRow_lit (base := w.heap.size) (e := 3) (size := 1) w #[] 0 (Nat.le_refl _) (by simp) rfl)
  clear h hb1 hc
  go_enter Tryz.func43, Tryz.ntmps43
  go_wp2_with (at_builtin; refine wpList_append_own _ rfl (.tmp 5) (.tmp 6) 38 rfl w.heap.size 3 i0 _ 1 8 Tryz.underlying38 hi0 hz0 hz1 hz2 rfl (by decide) (.slice (some ⟨w.heap.size, 0, none⟩) 0 0) 0 [] rfl HE.out ⟨g, o, none⟩ l.length c (l.map (Value.int .i64)) rfl (by simp) HN.out (ints_one _) (by unfold maxLen; omega) (by omega) (by simp) ?_; intro v w2 hown2 hgrow _)
  go_ret
  exact ⟨_, rfl, by simpa [OwnsI] using hown2, HB1.out.grown hgrow (by simp) (fun k hk => by simp [Value.ownBlock] at hk; omega)⟩
set_option maxRecDepth 100000 in
theorem cloneP_any {w : World} {v : Value} {l : List Pt} (h : InP w v l) (hne : l ≠ []) (hl : l.length ≤ 100000) :
    Calls Tryz.prog 44 #[v] w fun e w' => ∃ v', e = .returned v' ∧ OwnsP 85 w' w.heap.size v' l ∧ Below w.heap.size w w' := by
  obtain ⟨i0, hi0, hz0, hz1, hz2⟩ := info_parts infoP
  have hq := fun a n c => Lib.run_eql_slice_nil (P := Tryz.prog) w 43 85 a n c 0 0 Tryz.underlying43
  obtain ⟨g, o, c, rfl, hg⟩ := h.slice hne
  have hb1 : Below w.heap.size w (w.alloc (.cells #[] 85)) := (Below.refl _ _).alloc (Nat.le_refl _) _
  have HB1 := Lib.hid hb1
  have HN := Lib.hid (h.below hb1).news
  have HE := Lib.hid (World.ownsRow_lit (base := w.heap.size) (e := 85) (size := 4) w #[] 0 (Nat.le_refl _) (by simp) rfl)
  clear h hb1
  go_enter Tryz.func44, Tryz.ntmps44
  go_wp2_with (at_builtin; refine wpList_append_own _ rfl (.tmp 5) (.tmp 6) 43 rfl w.heap.size 85 i0 _ 4 32 Tryz.underlying43 hi0 hz0 hz1 hz2 rfl (by decide) (.slice (some ⟨w.heap.size, 0, none⟩) 0 0) 0 [] rfl HE.out ⟨g, o, none⟩ l.length c (pflat l) rfl (pflat_length l) HN.out (pflat_one _) (by unfold maxLen; omega) (by omega) (by simp) ?_; intro v w2 hown2 hgrow _)
  go_ret
  exact ⟨_, rfl, by simpa [OwnsP] using hown2, HB1.out.grown hgrow (by simp) (fun k hk => by simp [Value.ownBlock] at hk; omega)⟩

/-! ### join -/
theorem pflat_one1 (m : Pt) : pflat [m] = m.cells.toList := by simp [pflat]
/-- The end of the last part is stored anew. -/
theorem OwnsP.setT {e : TypeId} {w : World} {base g cap : Nat} {m : List Pt} {q : Pt} {n : Nat} (hn : n = (m ++ [q]).length) (h : OwnsP e w base (.slice (some ⟨g, 0, none⟩) n cap) (m ++ [q])) (x : Int) :
    OwnsP e (w.setCell ⟨g, m.length * 4 + 1, none⟩ (.int .i64 x)) base (.slice (some ⟨g, 0, none⟩) n cap) (m ++ [{ q with t := x }]) := by
  subst hn
  have h2 := (World.ownsRow.stored h (m.length * 4 + 1) (.int .i64 x)).1
  unfold OwnsP
  have e1 : (pflat (m ++ [q])).set (m.length * 4 + 1) (.int .i64 x) = pflat (m ++ [{ q with t := x }]) := by
    rw [pflat_append, pflat_append, pflat_one1, pflat_one1, List.set_append, pflat_length, if_neg (by omega), show m.length * 4 + 1 - m.length * 4 = 1 by omega]
    rfl
  rw [e1] at h2
  have e2 : (m ++ [({ q with t := x } : Pt)]).length = (m ++ [q]).length := by simp
  rw [e2]; exact h2
theorem srcs_part (e : TypeId) (w : World) (N : Nat) (hN : w.heap.size = N) (p : Pt) : ∀ j u, (pflat [p])[j]? = some u → (w.alloc (.cells p.cells e)).cell? ((⟨N, 0, none⟩ : Addr).add j) = some u := fun j u hu => by
  subst hN
  rw [pflat_one1] at hu
  rw [Go.WideShapes.add_plain, Nat.zero_add, cell_of_row _ _ j p.cells e (0, 0) (heap_alloc_new w _)]
  rw [← Array.getElem?_toList]; exact hu
theorem jn_same (m : List Pt) (q p : Pt) (h : p.f < p.t) (hq : q.a = p.a ∧ q.b = p.b) : jn (m ++ [q]) p = m ++ [{ q with t := p.t }] := by rw [jn_last _ _ _ h, if_pos hq]
theorem jn_more (m : List Pt) (q p : Pt) (h : p.f < p.t) (hq : ¬ (q.a = p.a ∧ q.b = p.b)) : jn (m ++ [q]) p = (m ++ [q]) ++ [p] := by rw [jn_last _ _ _ h, if_neg hq]; simp
theorem fold_step {l : List Pt} {k : Nat} {p : Pt} (h : l[k]? = some p) : (l.take (k + 1)).foldl jn [] = jn ((l.take k).foldl jn []) p := by
  rw [List.take_add_one, h]; simp
/-- What ends with a part. -/
theorem OwnsP.tail {e : TypeId} {w : World} {base : Nat} {v : Value} {m : List Pt} {q : Pt} (h : OwnsP e w base v (m ++ [q])) : ∃ g cap n, v = .slice (some ⟨g, 0, none⟩) n cap ∧ n = (m ++ [q]).length ∧ n = m.length + 1 ∧ base ≤ g ∧ PAt w g (m.length * 4) q ∧ w.frozen? ⟨g, m.length * 4 + 1, none⟩ = false := by
  rcases h.form with ⟨-, e⟩ | ⟨g, cap, rfl, hb, -, -, -, hat⟩
  · exact absurd e (by simp)
  · exact ⟨g, cap, _, rfl, rfl, by simp, hb, hat m.length q (by simp), World.ownsRow.frozenAt h _⟩
set_option maxRecDepth 100000 in
set_option maxHeartbeats 4000000 in
theorem join_any' {w : World} {v : Value} {l : List Pt} (h : InP w v l) (hl : l.length ≤ 100000) :
    Calls Tryz.prog 70 #[v] w fun e w' => ∃ v', e = .returned v' ∧ OwnsP 85 w' w.heap.size v' (join l) ∧ Below w.heap.size w w' := by
  obtain ⟨i0, hi0, hz0, hz1, hz2⟩ := info_parts infoP
  obtain ⟨A, c, rfl, hc⟩ := h
  have HC := Lib.hid hc
  clear hc
  go_enter Tryz.func70, Tryz.ntmps70
  go_wp2
  go_loopw [3, 9] (fun v iv wr => ∃ k : Nat, k ≤ l.length ∧ iv = .int .i64 k ∧ OwnsP 85 wr w.heap.size v ((l.take k).foldl jn []) ∧ Below w.heap.size w wr) (fun _ iv _ => l.length - (intOf iv).toNat)
  case atStart => exact ⟨0, Nat.zero_le _, rfl, OwnsP.nil _ _ _, Below.refl _ _⟩
  case round =>
    obtain ⟨k, hk, rfl, ho, hb⟩ := hrel
    have HB := Lib.hid hb
    by_cases hlt : k < l.length
    · obtain ⟨p, hx⟩ : ∃ y, l[k]? = some y := ⟨_, List.getElem?_eq_getElem hlt⟩
      obtain ⟨g, o, rfl, hg, hcl⟩ := HC.out k p hx
      obtain ⟨c0, c1, c2, c3⟩ := hcl.below hb hg
      have HF := Lib.hid (fold_step hx)
      have hjl : ((l.take k).foldl jn []).length ≤ k := by
        have := join_len (l.take k) []
        rw [List.length_take] at this
        simp only [List.length_nil] at this
        omega
      generalize (l.take k).foldl jn [] = out at ho HF hjl
      have hkI : (0 : Int) ≤ (k : Int) := by omega
      have hlI : (k : Int) < (l.length : Int) := by omega
      obtain ⟨f, t, a, b⟩ := p
      have hba : Below wr.heap.size wr (wr.alloc (.cells #[.int .i64 f, .int .i64 t, .int .i64 a, .int .i64 b] 85)) := (Below.refl _ _).alloc (Nat.le_refl _) _
      have HO1 := Lib.hid (ho.below hba)
      have HB1 := Lib.hid (hb.trans (hba.mono hb.size))
      clear hx hcl ho hb hba
      by_cases h1 : t ≤ f
      · have d1 : decide (t ≤ f) = true := decide_eq_true h1
        go_wp2_with fail
        go_roundw
        case rel => exact ⟨k + 1, by omega, by go_num, by rw [HF.out, jn_none _ _ h1]; exact HO1.out, HB1.out⟩
        case measure => simp only [intOf]; omega
      · have d1 : decide (t ≤ f) = false := decide_eq_false h1
        rcases list_last out with rfl | ⟨m, q, rfl⟩
        · have HR := Lib.hid (jn_nil ⟨f, t, a, b⟩ (by show f < t; omega))
          obtain ⟨A', c', rfl, -⟩ := HO1.out.inP
          have HO2 := Lib.hid (fun (nq : Nat) => OwnsP.below (w' := ((wr.alloc (.cells #[.int .i64 f, .int .i64 t, .int .i64 a, .int .i64 b] 85)).drewN nq).alloc (.cells #[.int .i64 f, .int .i64 t, .int .i64 a, .int .i64 b] 85)) HO1.out ((below_drewN (Below.refl _ _) nq).alloc (by simp) _))
          have HSr := Lib.hid (fun (nq : Nat) => srcs_part 85 ((wr.alloc (.cells #[.int .i64 f, .int .i64 t, .int .i64 a, .int .i64 b] 85)).drewN nq) (wr.heap.size + 1) (by simp) ⟨f, t, a, b⟩)
          go_wp2_with fail
          go_quiet (fail)
          go_wp2_with (at_builtin; refine wpList_append_own _ rfl (.tmp 53) (.tmp 55) 43 rfl w.heap.size 85 i0 _ 4 32 Tryz.underlying43 hi0 hz0 hz1 hz2 rfl (by decide) _ _ _ rfl (HO2.out nq) ⟨wr.heap.size + 1, 0, none⟩ 1 1 (pflat [⟨f, t, a, b⟩]) rfl (pflat_length _) (HSr.out nq) (pflat_one _) (by unfold maxLen; first | omega | (simp; done) | (simp; omega)) (by first | omega | (simp; done) | (simp; omega)) (by have := HB1.out.size; simp at this ⊢; omega) ?_; intro v' w2 hown2 hgrow _; have HOw := Lib.hid hown2; have HGr := Lib.hid hgrow; clear hown2 hgrow)
          go_roundw
          case rel =>
            refine ⟨k + 1, by omega, by go_num, ?_, ?_⟩
            · rw [HF.out, HR.out]
              have := HOw.out
              rw [← pflat_append] at this
              simpa [OwnsP] using this
            · exact ((below_drewN HB1.out nq).alloc (by have := HB1.out.size; simp at this ⊢; omega) _).grown HGr.out (by have := HB1.out.size; simp at this ⊢; omega) (fun k hk => (HO1.out.lt hk).1)
          case measure => simp only [intOf]; omega
        · obtain ⟨g', cap', nn, rfl, hnn, hml, hg', hcell, hfz⟩ := HO1.out.tail
          have HNN := Lib.hid hnn
          have hw : IntKind.i64.wrap ((nn : Int) - 1) = (m.length : Int) := (IntWalk.i64_in _ (by omega)).trans (by omega)
          have hmI : (0 : Int) ≤ (m.length : Int) := by omega
          have hmn : (m.length : Int) < (nn : Int) := by omega
          have hnl : nn ≤ 100000 := by rw [hnn]; omega
          clear hnn hml
          obtain ⟨qf, qt, qa, qb⟩ := q
          obtain ⟨-, q1, q2, q3⟩ := hcell
          have HO2 := Lib.hid (fun (nq : Nat) => OwnsP.below (w' := ((wr.alloc (.cells #[.int .i64 f, .int .i64 t, .int .i64 a, .int .i64 b] 85)).drewN nq).alloc (.cells #[.int .i64 f, .int .i64 t, .int .i64 a, .int .i64 b] 85)) HO1.out ((below_drewN (Below.refl _ _) nq).alloc (by simp) _))
          have HSr := Lib.hid (fun (nq : Nat) => srcs_part 85 ((wr.alloc (.cells #[.int .i64 f, .int .i64 t, .int .i64 a, .int .i64 b] 85)).drewN nq) (wr.heap.size + 1) (by simp) ⟨f, t, a, b⟩)
          by_cases g1 : qa = a
          · have e1 : (qa == a) = true := by simpa using g1
            by_cases g2 : qb = b
            · have e2 : (qb == b) = true := by simpa using g2
              go_wp2_with fail
              go_quiet (fail)
              go_wp2
              go_roundw
              case rel =>
                refine ⟨k + 1, by omega, by go_num, ?_, ?_⟩
                · rw [HF.out, jn_same _ _ _ (by show f < t; omega) ⟨g1, g2⟩]
                  exact OwnsP.setT HNN.out (OwnsP.below HO1.out (below_drewN (Below.refl _ _) nq)) t
                · exact (below_drewN HB1.out nq).setCell (p := ⟨g', m.length * 4 + 1, none⟩) hg' _
              case measure => simp only [intOf]; omega
            · have e2 : (qb == b) = false := by simpa using g2
              have hqs : ¬ ((⟨qf, qt, qa, qb⟩ : Pt).a = a ∧ (⟨qf, qt, qa, qb⟩ : Pt).b = b) := fun h => g2 h.2
              go_wp2_with fail
              go_quiet (fail)
              go_wp2_with (at_builtin; refine wpList_append_own _ rfl (.tmp 53) (.tmp 55) 43 rfl w.heap.size 85 i0 _ 4 32 Tryz.underlying43 hi0 hz0 hz1 hz2 rfl (by decide) _ _ _ rfl (HO2.out nq) ⟨wr.heap.size + 1, 0, none⟩ 1 1 (pflat [⟨f, t, a, b⟩]) rfl (pflat_length _) (HSr.out nq) (pflat_one _) (by unfold maxLen; omega) (by omega) (by have := HB1.out.size; simp at this ⊢; omega) ?_; intro v' w2 hown2 hgrow _; have HOw := Lib.hid hown2; have HGr := Lib.hid hgrow; clear hown2 hgrow)
              go_roundw
              case rel =>
                refine ⟨k + 1, by omega, by go_num, ?_, ?_⟩
                · rw [HF.out, jn_more _ _ _ (by show f < t; omega) hqs]
                  have := HOw.out
                  rw [← pflat_append] at this
                  unfold OwnsP
                  rw [List.length_append]
                  exact this
                · exact ((below_drewN HB1.out nq).alloc (by have := HB1.out.size; simp at this ⊢; omega) _).grown HGr.out (by have := HB1.out.size; simp at this ⊢; omega) (fun k hk => (HO1.out.lt hk).1)
              case measure => simp only [intOf]; omega
          · have e1 : (qa == a) = false := by simpa using g1
            have hqs : ¬ ((⟨qf, qt, qa, qb⟩ : Pt).a = a ∧ (⟨qf, qt, qa, qb⟩ : Pt).b = b) := fun h => g1 h.1
            go_wp2_with fail
            go_quiet (fail)
            go_wp2_with (at_builtin; refine wpList_append_own _ rfl (.tmp 53) (.tmp 55) 43 rfl w.heap.size 85 i0 _ 4 32 Tryz.underlying43 hi0 hz0 hz1 hz2 rfl (by decide) _ _ _ rfl (HO2.out nq) ⟨wr.heap.size + 1, 0, none⟩ 1 1 (pflat [⟨f, t, a, b⟩]) rfl (pflat_length _) (HSr.out nq) (pflat_one _) (by unfold maxLen; omega) (by omega) (by have := HB1.out.size; simp at this ⊢; omega) ?_; intro v' w2 hown2 hgrow _; have HOw := Lib.hid hown2; have HGr := Lib.hid hgrow; clear hown2 hgrow)
            go_roundw
            case rel =>
              refine ⟨k + 1, by omega, by go_num, ?_, ?_⟩
              · rw [HF.out, jn_more _ _ _ (by show f < t; omega) hqs]
                have := HOw.out
                rw [← pflat_append] at this
                unfold OwnsP
                rw [List.length_append]
                exact this
              · exact ((below_drewN HB1.out nq).alloc (by have := HB1.out.size; simp at this ⊢; omega) _).grown HGr.out (by have := HB1.out.size; simp at this ⊢; omega) (fun k hk => (HO1.out.lt hk).1)
            case measure => simp only [intOf]; omega
    · have hlI : ¬ (k : Int) < (l.length : Int) := by omega
      have HO := Lib.hid ho
      clear ho hb
      go_wp2
      go_ret
      refine ⟨_, rfl, ?_, HB.out⟩
      have := HO.out
      rw [List.take_of_length_le (by omega)] at this
      exact this
end Go.Proofs.YthjinpbclfankaaGreatDoor
