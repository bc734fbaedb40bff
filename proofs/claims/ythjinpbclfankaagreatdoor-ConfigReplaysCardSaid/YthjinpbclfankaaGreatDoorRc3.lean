/-
  come, leave, place, Apply (the document's own), by contracts.
-/
import Derived.Test.YthjinpbclfankaaGreatDoorRc2
import Derived.Test.YthjinpbclfankaaGreatDoorPc7
namespace Go.Proofs.YthjinpbclfankaaGreatDoor
open Go.RowKit

theorem has_drawn {w : World} {v : Value} {l : List Int} (h : InI w v l) (hl : l.length ≤ 100000) (x : Int) (n : Nat) :
    Calls Tryz.prog 58 #[v, .int .i64 x] (w.drewN n) fun e w' => e = .returned (.bool (decide (x ∈ l))) ∧ ∃ m, w' = w.drewN m := by
  refine (has_any (h.below (below_drewN (Below.refl _ _) n)) x hl).mono ?_
  rintro e w' ⟨rfl, rfl⟩
  exact ⟨rfl, n, rfl⟩
/-- The servers with one more, by definition. -/
def nodesC (l : List Int) (n : Int) (k : Nat) : List Int := ((List.range k).map fun i : Nat => (i : Int)).filter (fun x => decide (x = n ∨ x ∈ l))
theorem nodesC_more (l : List Int) (n : Int) (k : Nat) : nodesC l n (k + 1) = nodesC l n k ++ (if ((k : Int) = n ∨ (k : Int) ∈ l) then [(k : Int)] else []) := by
  unfold nodesC
  rw [List.range_succ, List.map_append, List.filter_append]
  congr 1
  show List.filter _ [(k : Int)] = _
  by_cases h : (k : Int) = n ∨ (k : Int) ∈ l
  · rw [if_pos h, List.filter_cons_of_pos (by simpa using h)]; rfl
  · rw [if_neg h, List.filter_cons_of_neg (by simpa using h)]; rfl
theorem nodesC_len (l : List Int) (n : Int) (k : Nat) : (nodesC l n k).length ≤ k := by
  unfold nodesC
  refine Nat.le_trans (List.length_filter_le _ _) (by simp)
theorem nodesC_all {l : List Int} {n : Int} (h : srvOk (-1) l = true) (hn : 0 ≤ n ∧ n < 8) (hno : n ∉ l) : nodesC l n 8 = comeS l n := by
  refine rise_ext _ _ ?_ ((srvOk_iff' _).1 (comeS_ok h hn hno)).2 fun x => ?_
  · unfold nodesC
    refine List.Pairwise.filter _ ?_
    rw [List.pairwise_map]
    exact List.pairwise_lt_range.imp fun h => by omega
  · rw [comeS_mem]
    unfold nodesC
    rw [List.mem_filter]
    simp only [decide_eq_true_eq, List.mem_map, List.mem_range]
    constructor
    · rintro ⟨-, h⟩; exact h
    · intro hx
      refine ⟨?_, hx⟩
      have hx8 : 0 ≤ x ∧ x < 8 := by
        rcases hx with rfl | hx
        · exact hn
        · exact ((srvOk_iff' _).1 h).1 x hx
      exact ⟨x.toNat, by omega, by omega⟩
theorem srcs_int (w : World) (N : Nat) (hN : w.heap.size = N) (x : Int) : ∀ j u, ([Value.int .i64 x])[j]? = some u → (w.alloc (.cells #[.int .i64 x] 3)).cell? ((⟨N, 0, none⟩ : Addr).add j) = some u := fun j u hu => by
  subst hN
  rw [Go.WideShapes.add_plain, Nat.zero_add, cell_of_row _ _ j #[.int .i64 x] 3 (0, 0) (heap_alloc_new w _)]
  rw [← Array.getElem?_toList]; exact hu
/-- What a call of the document's own on a config by value tells: its config and its error. -/
def New12 (w : World) (v : Value) (c0 : Cf) (w' : World) (v' : Value) (c : Cf) : Prop :=
  ∃ sv0 pv0 sv pv, v = .agg #[.int .i64 c0.e, sv0, pv0, .int .i64 c0.t] ∧ v' = .agg #[.int .i64 c.e, sv, pv, .int .i64 c.t] ∧ ((sv = sv0 ∧ c.srv = c0.srv) ∨ ∃ b, w.heap.size ≤ b ∧ OwnsI w' b sv c.srv) ∧ ((pv = pv0 ∧ c.pts = c0.pts) ∨ ∃ b, w.heap.size ≤ b ∧ OwnsP 84 w' b pv c.pts)
def RT12 (w : World) (v : Value) (c0 : Cf) (e : Ending) (w' : World) (c : Cf) (er : Int) : Prop := ∃ v', e = .returned (.tuple #[v', .int .i64 er]) ∧ (er = 0 → New12 w v c0 w' v' c) ∧ (er ≠ 0 → v' = vz) ∧ Below w.heap.size w w'
set_option maxRecDepth 100000 in
set_option maxHeartbeats 4000000 in
theorem rcome_any {w : World} {v : Value} {c : Cf} (h : IC w v c) (hs : srvOk (-1) c.srv = true) (n : Int) :
    Calls Tryz.prog 46 #[v, .int .i64 n] w fun e w' => RT12 w v c e w' { c with srv := comeS c.srv n } (if 0 ≤ n ∧ n < 8 then (if n ∈ c.srv then 4 else 0) else 1) := by
  obtain ⟨i0, hi0, hz0, hz1, hz2⟩ := info_parts infoInt
  have hl8 := srvOk_len8 hs
  obtain ⟨sv, pv, rfl, HC⟩ := h.look
  obtain ⟨A1, c1, hA1, -⟩ := (HC.out _ (Below.refl _ _)).1
  obtain ⟨A2, c2, hA2, -⟩ := (HC.out _ (Below.refl _ _)).2
  subst hA1
  subst hA2
  clear h
  have hb1 : Below w.heap.size w (w.alloc (.cells #[.int .i64 c.e, .slice A1 c.srv.length c1, .slice A2 c.pts.length c2, .int .i64 c.t] 41)) := (Below.refl _ _).alloc (Nat.le_refl _) _
  have hb2 := hb1.alloc hb1.size (.cells #[.int .i64 0, .slice none 0 0, .slice none 0 0, .int .i64 0] 41)
  have hr := heap_alloc_new (w.alloc (.cells #[.int .i64 c.e, .slice A1 c.srv.length c1, .slice A2 c.pts.length c2, .int .i64 c.t] 41)) (.cells #[.int .i64 0, .slice none 0 0, .slice none 0 0, .int .i64 0] 41)
  rw [World.size_alloc] at hr
  have HB2 := Lib.hid hb2
  have HR := Lib.hid hr
  have HH := Lib.hid (fun (W : World) (hb : Below w.heap.size w W) (x : Int) => has_any (HC.out W hb).1 x (by omega))
  clear hb1 hb2 hr
  by_cases hn : 0 ≤ n ∧ n < 8
  case neg =>
    rw [if_neg hn]
    by_cases hn0 : n < 0
    · have d1 : decide (n < 0) = true := decide_eq_true hn0
      go_enter Tryz.func46, Tryz.ntmps46
      go_wp2_with fail
      refine bodyPost_ret (results_cell_tmp rfl _ _ (w.heap.size + 1) 41 #[.int .i64 0, .slice none 0 0, .slice none 0 0, .int .i64 0] (0, 0) _ rfl HR.out Tryz.underlying41 rfl (by kernel_rfl)) rfl ?_
      exact ⟨_, rfl, (fun h => by cases h), fun _ => rfl, HB2.out⟩
    · have d1 : decide (n < 0) = false := decide_eq_false hn0
      have d2 : decide (8 ≤ n) = true := decide_eq_true (by omega)
      go_enter Tryz.func46, Tryz.ntmps46
      go_wp2_with fail
      refine bodyPost_ret (results_cell_tmp rfl _ _ (w.heap.size + 1) 41 #[.int .i64 0, .slice none 0 0, .slice none 0 0, .int .i64 0] (0, 0) _ rfl HR.out Tryz.underlying41 rfl (by kernel_rfl)) rfl ?_
      exact ⟨_, rfl, (fun h => by cases h), fun _ => rfl, HB2.out⟩
  case pos =>
  rw [if_pos hn]
  have d1 : decide (n < 0) = false := decide_eq_false (by omega)
  have d2 : decide (8 ≤ n) = false := decide_eq_false (by omega)
  have HHn := Lib.hid (HH.out _ HB2.out n)
  by_cases hm : n ∈ c.srv
  case pos =>
    rw [if_pos hm]
    rw [decide_eq_true hm] at HHn
    go_enter Tryz.func46, Tryz.ntmps46
    go_wp2_with (first | (go_at_call 58; (with_reducible refine HHn.out.mono ?_); rintro e w' ⟨rfl, rfl⟩) | fail)
    refine bodyPost_ret (results_cell_tmp rfl _ _ (w.heap.size + 1) 41 #[.int .i64 0, .slice none 0 0, .slice none 0 0, .int .i64 0] (0, 0) _ rfl HR.out Tryz.underlying41 rfl (by kernel_rfl)) rfl ?_
    exact ⟨_, rfl, (fun h => by cases h), fun _ => rfl, HB2.out⟩
  case neg =>
  rw [if_neg hm]
  rw [decide_eq_false hm] at HHn
  have HNA := Lib.hid (nodesC_all hs hn hm)
  have HM := Lib.hid hm
  clear hm hn
  go_enter Tryz.func46, Tryz.ntmps46
  go_wp2_with (first | (go_at_call 58; (with_reducible refine HHn.out.mono ?_); rintro e w' ⟨rfl, rfl⟩) | fail)
  have hb3 : Below (w.heap.size + 1 + 1) ((w.alloc (.cells #[.int .i64 c.e, .slice A1 c.srv.length c1, .slice A2 c.pts.length c2, .int .i64 c.t] 41)).alloc (.cells #[.int .i64 0, .slice none 0 0, .slice none 0 0, .int .i64 0] 41)) (((w.alloc (.cells #[.int .i64 c.e, .slice A1 c.srv.length c1, .slice A2 c.pts.length c2, .int .i64 c.t] 41)).alloc (.cells #[.int .i64 0, .slice none 0 0, .slice none 0 0, .int .i64 0] 41)).alloc (.cells #[] 3)) := (Below.refl _ _).alloc (by simp) _
  have hown0 : OwnsI (((w.alloc (.cells #[.int .i64 c.e, .slice A1 c.srv.length c1, .slice A2 c.pts.length c2, .int .i64 c.t] 41)).alloc (.cells #[.int .i64 0, .slice none 0 0, .slice none 0 0, .int .i64 0] 41)).alloc (.cells #[] 3)) (w.heap.size + 1 + 1) (.slice (some ⟨w.heap.size + 1 + 1, 0, none⟩) 0 0) [] := lit_ints _ (w.heap.size + 1 + 1) (by simp) [] #[] rfl (by simp)
  have hrN : ((w.alloc (.cells #[.int .i64 c.e, .slice A1 c.srv.length c1, .slice A2 c.pts.length c2, .int .i64 c.t] 41)).alloc (.cells #[.int .i64 0, .slice none 0 0, .slice none 0 0, .int .i64 0] 41)).heap[w.heap.size]? = some (.cells #[.int .i64 c.e, .slice A1 c.srv.length c1, .slice A2 c.pts.length c2, .int .i64 c.t] 41 (0, 0)) := by
    rw [heap_alloc_old _ _ (by simp)]; exact heap_alloc_new w _
  have hs2 : ((w.alloc (.cells #[.int .i64 c.e, .slice A1 c.srv.length c1, .slice A2 c.pts.length c2, .int .i64 c.t] 41)).alloc (.cells #[.int .i64 0, .slice none 0 0, .slice none 0 0, .int .i64 0] 41)).heap.size = w.heap.size + 1 + 1 := by simp
  generalize (w.alloc (.cells #[.int .i64 c.e, .slice A1 c.srv.length c1, .slice A2 c.pts.length c2, .int .i64 c.t] 41)).alloc (.cells #[.int .i64 0, .slice none 0 0, .slice none 0 0, .int .i64 0] 41) = w2 at HB2 HR HHn hb3 hown0 hrN hs2 ⊢
  have HS2 := Lib.hid hs2
  have HRN := Lib.hid hrN
  have HO0 := Lib.hid hown0
  have HB3 := Lib.hid hb3
  clear hs2 hrN hown0 hb3 HHn d1 d2
  go_loopw [6, 7] (fun lv iv wr => ∃ (k : Nat) (A3 : Option Addr) (n3 c3 : Nat), k ≤ 8 ∧ iv = .int .i64 k ∧ lv = .slice A3 n3 c3 ∧ Below (w.heap.size + 1 + 1) w2 wr ∧ OwnsI wr (w.heap.size + 1 + 1) (.slice A3 n3 c3) (nodesC c.srv n k)) (fun _ iv _ => 8 - (intOf iv).toNat)
  case atStart => exact ⟨0, _, _, _, Nat.zero_le _, rfl, rfl, HB3.out, HO0.out⟩
  case round =>
    obtain ⟨k, A3, n3, c3, hk, rfl, rfl, hb, ho⟩ := hrel
    have hrn := (hb.block w.heap.size (by omega)).trans HRN.out
    have hrr := (hb.block (w.heap.size + 1) (by omega)).trans HR.out
    have r1 : wr.cell? ⟨w.heap.size, 1, none⟩ = some (.slice A1 c.srv.length c1) := cell_of_row _ _ 1 _ _ _ hrn
    have hwr := HB2.out.trans (hb.mono (by omega))
    have hsr : w.heap.size + 1 + 1 ≤ wr.heap.size := by have := hb.size; have := HS2.out; omega
    have HBr := Lib.hid hb
    have HO := Lib.hid ho
    clear HO0 HB3 hb ho
    by_cases hlt : k < 8
    · have hlI : (k : Int) < 8 := by omega
      have hkI : (0 : Int) ≤ (k : Int) := by omega
      have HHk := Lib.hid (HH.out _ hwr (k : Int))
      have HMo := Lib.hid (nodesC_more c.srv n k)
      have hln := nodesC_len c.srv n k
      have HAo := Lib.hid (show OwnsI (wr.alloc (.cells #[.int .i64 (k : Int)] 3)) (w.heap.size + 1 + 1) (.slice A3 n3 c3) (nodesC c.srv n k) from HO.out.below ((Below.refl _ _).alloc (Nat.le_refl _) _))
      have HSr := Lib.hid (srcs_int wr wr.heap.size rfl (k : Int))
      have HBa := Lib.hid (show Below (w.heap.size + 1 + 1) w2 (wr.alloc (.cells #[.int .i64 (k : Int)] 3)) from HBr.out.alloc hsr _)
      clear hrn hrr hwr
      by_cases h1 : (k : Int) = n
      · have e1 : ((k : Int) == n) = true := by simpa using h1
        have HI := Lib.hid (show (k : Int) = n ∨ (k : Int) ∈ c.srv from .inl h1)
        clear h1
        go_wp2_with (at_builtin; refine wpList_append_own _ rfl (.tmp 34) (.tmp 36) 38 rfl (w.heap.size + 1 + 1) 3 i0 _ 1 8 Tryz.underlying38 hi0 hz0 hz1 hz2 rfl (by decide) _ _ _ rfl HAo.out ⟨wr.heap.size, 0, none⟩ 1 1 [.int .i64 (k : Int)] rfl rfl HSr.out (by intro u hu; obtain rfl := List.mem_singleton.1 hu; rfl) (by unfold maxLen; omega) (by omega) (by simp; omega) ?_; intro v' w9 hown9 hgrow9 _; have HOw := Lib.hid hown9; have HGr := Lib.hid hgrow9; clear hown9 hgrow9)
        go_roundw
        case rel =>
          have h9 := HOw.out
          have h8 : OwnsI w9 (w.heap.size + 1 + 1) v' (nodesC c.srv n (k + 1)) := by
            rw [HMo.out, if_pos HI.out]
            unfold OwnsI
            rw [List.length_append, List.map_append]
            exact h9
          obtain ⟨A9, n9, c9, hA9⟩ : ∃ A9 n9 c9, v' = .slice A9 n9 c9 := by (obtain ⟨A', c', e, -⟩ := h8.inI); exact ⟨_, _, _, e⟩
          subst hA9
          exact ⟨k + 1, A9, n9, c9, by omega, by go_num, rfl, HBa.out.grown HGr.out (by simp; omega) (fun q hq => (HAo.out.lt (g := q) hq).1), h8⟩
        case measure => simp only [intOf]; omega
      · have e1 : ((k : Int) == n) = false := by simpa using h1
        by_cases h2 : (k : Int) ∈ c.srv
        · have d2 : decide ((k : Int) ∈ c.srv) = true := decide_eq_true h2
          have HI := Lib.hid (show (k : Int) = n ∨ (k : Int) ∈ c.srv from .inr h2)
          have HD := Lib.hid d2
          clear h1 h2 d2
          go_wp2_with (first
            | (go_at_call 58; (with_reducible refine HHk.out.mono ?_); rintro e w' ⟨rfl, rfl⟩; rw [HD.out])
            | (at_builtin; refine wpList_append_own _ rfl (.tmp 34) (.tmp 36) 38 rfl (w.heap.size + 1 + 1) 3 i0 _ 1 8 Tryz.underlying38 hi0 hz0 hz1 hz2 rfl (by decide) _ _ _ rfl HAo.out ⟨w'.heap.size, 0, none⟩ 1 1 [.int .i64 (k : Int)] rfl rfl HSr.out (by intro u hu; obtain rfl := List.mem_singleton.1 hu; rfl) (by unfold maxLen; omega) (by omega) (by simp; omega) ?_; intro v' w9 hown9 hgrow9 _; have HOw := Lib.hid hown9; have HGr := Lib.hid hgrow9; clear hown9 hgrow9)
            | fail)
          go_roundw
          case rel =>
            have h9 := HOw.out
            have h8 : OwnsI w9 (w.heap.size + 1 + 1) v' (nodesC c.srv n (k + 1)) := by
              rw [HMo.out, if_pos HI.out]
              unfold OwnsI
              rw [List.length_append, List.map_append]
              exact h9
            obtain ⟨A9, n9, c9, hA9⟩ : ∃ A9 n9 c9, v' = .slice A9 n9 c9 := by (obtain ⟨A', c', e, -⟩ := h8.inI); exact ⟨_, _, _, e⟩
            subst hA9
            exact ⟨k + 1, A9, n9, c9, by omega, by go_num, rfl, HBa.out.grown HGr.out (by simp; omega) (fun q hq => (HAo.out.lt (g := q) hq).1), h8⟩
          case measure => simp only [intOf]; omega
        · have d2 : decide ((k : Int) ∈ c.srv) = false := decide_eq_false h2
          have HI := Lib.hid (show ¬ ((k : Int) = n ∨ (k : Int) ∈ c.srv) from fun h => h.elim h1 h2)
          have HD := Lib.hid d2
          clear h1 h2 d2
          go_wp2_with (first
            | (go_at_call 58; (with_reducible refine HHk.out.mono ?_); rintro e w' ⟨rfl, rfl⟩; rw [HD.out])
            | fail)
          go_roundw
          case rel =>
            have h8 := HO.out
            refine ⟨k + 1, A3, n3, c3, by omega, by go_num, rfl, HBr.out, ?_⟩
            rw [HMo.out, if_neg HI.out, List.append_nil]
            exact h8
          case measure => simp only [intOf]; omega
    · have hlI : ¬ (k : Int) < 8 := by omega
      obtain rfl : k = 8 := by omega
      have r0 : wr.cell? ⟨w.heap.size, 0, none⟩ = some (.int .i64 c.e) := cell_of_row _ _ 0 _ _ _ hrn
      have r2 : wr.cell? ⟨w.heap.size, 2, none⟩ = some (.slice A2 c.pts.length c2) := cell_of_row _ _ 2 _ _ _ hrn
      have r3 : wr.cell? ⟨w.heap.size, 3, none⟩ = some (.int .i64 c.t) := cell_of_row _ _ 3 _ _ _ hrn
      have t0 : wr.cell? ⟨w.heap.size + 1, 0, none⟩ = some (.int .i64 0) := cell_of_row _ _ 0 _ _ _ hrr
      have t1 : wr.cell? ⟨w.heap.size + 1, 1, none⟩ = some (.slice none 0 0) := cell_of_row _ _ 1 _ _ _ hrr
      have t2 : wr.cell? ⟨w.heap.size + 1, 2, none⟩ = some (.slice none 0 0) := cell_of_row _ _ 2 _ _ _ hrr
      have t3 : wr.cell? ⟨w.heap.size + 1, 3, none⟩ = some (.int .i64 0) := cell_of_row _ _ 3 _ _ _ hrr
      have rf : wr.frozen? ⟨w.heap.size, 1, none⟩ = false := by unfold World.frozen?; simp only [hrn]; simp
      have tf : ∀ j, wr.frozen? ⟨w.heap.size + 1, j, none⟩ = false := fun j => by unfold World.frozen?; simp only [hrr]; simp
      have tf0 := tf 0
      have tf1 := tf 1
      have tf2 := tf 2
      have tf3 := tf 3
      have hrr' : (wr.setCell ⟨w.heap.size, 1, none⟩ (.slice A3 n3 c3)).heap[w.heap.size + 1]? = _ := (heap_set_eq (by omega) _ _).trans hrr
      obtain ⟨s1, s2⟩ := store4 hrr' (.int .i64 c.e) (.slice A3 n3 c3) (.slice A2 c.pts.length c2) (.int .i64 c.t)
      have hbs : Below w.heap.size w (wr.setCell ⟨w.heap.size, 1, none⟩ (.slice A3 n3 c3)) := hwr.setCell (p := ⟨w.heap.size, 1, none⟩) (Nat.le_refl _) _
      have hbf := hbs.grown s2 hbs.size (fun q hq => by cases hq; omega)
      have hof := owns_kept HO.out (fun q hq => (s2.block q (by have := (HO.out.lt (g := q) hq).2; simpa using this) (fun e => by have := (HO.out.lt (g := q) hq).1; injection e with e; omega)).trans (heap_set_eq (fun e => by have := (HO.out.lt (g := q) hq).1; omega) _ _))
      have HS1 := Lib.hid s1
      have HBf := Lib.hid hbf
      have HOf := Lib.hid hof
      have HPf := Lib.hid (HC.out _ hbf).2
      clear hrn hrr hwr tf hrr' s1 s2 hbs hbf hof
      go_wp2_with fail
      refine bodyPost_ret (results_cell_tmp rfl _ _ (w.heap.size + 1) 41 #[.int .i64 c.e, .slice A3 n3 c3, .slice A2 c.pts.length c2, .int .i64 c.t] (0, 0) _ rfl HS1.out Tryz.underlying41 rfl (by kernel_rfl)) rfl ?_
      refine ⟨_, rfl, fun _ => ⟨_, _, _, _, rfl, rfl, .inr ⟨w.heap.size + 1 + 1, by omega, ?_⟩, .inl ⟨rfl, rfl⟩⟩, (fun h => absurd rfl h), HBf.out⟩
      have := HOf.out
      rw [HNA.out] at this
      exact this
end Go.Proofs.YthjinpbclfankaaGreatDoor
