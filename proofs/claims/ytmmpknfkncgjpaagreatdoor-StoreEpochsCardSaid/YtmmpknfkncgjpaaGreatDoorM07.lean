/-
  The document's own counted, Sync and Read (weirkeepref07), by contracts.

  The document's own Read and Write (weirkeepref07), by contracts.

  The document's own Write (weirkeepref07), by a contract.
-/
import Derived.Test.YtmmpknfkncgjpaaGreatDoorM06
namespace Go.Proofs.YtmmpknfkncgjpaaGreatDoor
open Go.RowKit

set_option maxRecDepth 100000 in
set_option maxHeartbeats 2000000 in
theorem rcounted_any (b : Nat) (s : St) (F : Nat → Prop) (w : World) (h : RB w b s F) (hg : Good s) (hc : s.n ≤ 1000000) :
    Calls Tryz.prog 138 #[.pointer (some ⟨b, 0, none⟩)] w fun e w' => e = .returned (.bool (lastC s)) ∧ Goes F w w' (RB w' b (count s)) := by
  have hbF := h.mem
  obtain ⟨vi, vw, h, hF⟩ := h.v
  obtain ⟨-, -, -, c3, c4, c5⟩ := h.cells
  have f3 := h.row.frozen 3
  have f5 := h.row.frozen 5
  have hlt := hg.lf
  have P1 := Lib.hid (h.setN (s.n + 1))
  have K1 := Lib.hid ((Keeps.refl F w).set (b := b) (o := 5) (.inl hbF) (.int .i64 ((s.n + 1 : Nat) : Int)))
  have hcast : ((s.n + 1 : Nat) : Int) = (s.n : Int) + 1 := by push_cast; rfl
  rw [hcast] at P1 K1
  have HF := Lib.hid hF
  clear hcast hF
  by_cases h0 : s.left = 0
  · have e1 : count s = { s with n := s.n + 1 } := by unfold count; rw [if_pos h0]
    have e2 : lastC s = false := by unfold lastC; rw [h0]; rfl
    rw [e1, e2]
    rw [h0] at c3
    clear h e1 e2 hg h0
    go_enter Tryz.func138, Tryz.ntmps138
    go_wp2
    go_ret
    exact ⟨rfl, Goes.ref P1.out hbF (fun k hk => .inl (HF.out k (.inr (.inl hk)))) (fun k hk => .inl (HF.out k (.inr (.inr hk)))) K1.out⟩
  · by_cases h1 : s.left = 1
    · have e1 : count s = crash { { s with n := s.n + 1 } with left := 0 } s.keep := by unfold count; rw [if_neg h0, if_pos h1]
      have e2 : lastC s = true := by unfold lastC; rw [h1]; rfl
      rw [e1, e2]
      have P2 := Lib.hid (P1.out.setLeft 0)
      have K2 := Lib.hid (K1.out.set (b := b) (o := 3) (.inl hbF) (.int .i64 ((0 : Nat) : Int)))
      have HC := Lib.hid (rcrash_any b { { s with n := s.n + 1 } with left := 0 } _ s.keep _ P2.out.rb ⟨hg.sec, hg.wt, hg.lo, hg.hi, by show 0 < _; omega, hg.kp⟩)
      have hc0 : ((0 : Nat) : Int) = 0 := rfl
      rw [hc0] at HC K2
      rw [h1] at c3
      clear h e1 e2 hg hc0 P1 K1 P2 h0 h1
      go_enter Tryz.func138, Tryz.ntmps138
      go_wp2_with (go_at_call 33; refine HC.out.mono ?_; rintro e w1 ⟨rfl, k1⟩; have K3 := Lib.hid k1; clear k1)
      go_ret
      exact ⟨rfl, Goes.trans (fun k hk => .inl (HF.out k hk)) K2.out K3.out⟩
    · have e1 : count s = { { s with n := s.n + 1 } with left := s.left - 1 } := by unfold count; rw [if_neg h0, if_neg h1]
      have e2 : lastC s = false := by unfold lastC; simp [h1]
      rw [e1, e2]
      have P2 := Lib.hid (P1.out.setLeft (s.left - 1))
      have K2 := Lib.hid (K1.out.set (b := b) (o := 3) (.inl hbF) (.int .i64 ((s.left - 1 : Nat) : Int)))
      have hcast : ((s.left - 1 : Nat) : Int) = (s.left : Int) - 1 := by omega
      rw [hcast] at P2 K2
      have h1I : (1 : Int) < (s.left : Int) := by omega
      clear h e1 e2 hg hcast P1 K1 h0 h1
      go_enter Tryz.func138, Tryz.ntmps138
      go_wp2
      go_ret
      exact ⟨rfl, Goes.ref P2.out hbF (fun k hk => .inl (HF.out k (.inr (.inl hk)))) (fun k hk => .inl (HF.out k (.inr (.inr hk)))) K2.out⟩

theorem lastC_true {s : St} (h : s.left = 1) : lastC s = true := by unfold lastC; rw [h]; rfl
theorem lastC_false {s : St} (h : ¬ s.left = 1) : lastC s = false := by unfold lastC; simp [h]

/-- The writes take place, in the document's own. -/
theorem whole_eq (s : St) : whole s = { (at' s (fun _ => 32) s.wait.length) with wait := [] } := rfl

set_option maxRecDepth 100000 in
set_option maxHeartbeats 4000000 in
theorem rsync_any (b : Nat) (s : St) (F : Nat → Prop) (w : World) (h : RB w b s F) (hg : Good s) (hc : s.n ≤ 1000000) :
    Calls Tryz.prog 112 #[.pointer (some ⟨b, 0, none⟩)] w fun e w' => e = .returned (.int .i64 (syncE s)) ∧ Goes F w w' (RB w' b (syncS s)) := by
  have HP0 := Lib.hid h
  obtain ⟨vi, vw, h, hF⟩ := h.v
  obtain ⟨-, -, c2, -⟩ := h.cells
  clear h hF
  cases hgo : s.gone
  · rw [hgo] at c2
    have hgt : ¬ (s.gone = true) := by simp [hgo]
    have HC := Lib.hid (rcounted_any b s F w HP0.out hg hc)
    have HG := Lib.hid hg.count
    by_cases h1 : s.left = 1
    · have e1 : syncE s = 70 := by unfold syncE; rw [if_pos (.inr h1)]
      have e2 : syncS s = count s := by unfold syncS; rw [if_neg hgt, if_pos h1]
      rw [e1, e2]
      rw [lastC_true h1] at HC
      clear h1 e1 e2 hgt hgo hg
      generalize count s = s2 at HC HG ⊢
      have hd : decide (false = true) = false := rfl
      go_enter Tryz.func112, Tryz.ntmps112
      go_wp2_with (go_at_call 138; refine HC.out.mono ?_; rintro e w1 ⟨rfl, k1⟩; have K1 := Lib.hid k1; clear k1)
      go_ret
      exact ⟨rfl, K1.out⟩
    · have e1 : syncE s = 0 := by unfold syncE; rw [if_neg (fun e => by rcases e with e | e; (exact hgt e); (exact h1 e))]
      have e2 : syncS s = whole (count s) := by unfold syncS; rw [if_neg hgt, if_neg h1]
      rw [e1, e2]
      rw [lastC_false h1] at HC
      clear h1 e1 e2 hgt hgo hg
      generalize count s = s2 at HC HG ⊢
      go_enter Tryz.func112, Tryz.ntmps112
      go_wp2_with (go_at_call 138; refine HC.out.mono ?_; rintro e w1 ⟨rfl, k1⟩; obtain ⟨F1, k1, k2, k3⟩ := k1; obtain ⟨vi1, vw1, k1, k4⟩ := k1.v; have P1 := Lib.hid k1; have E1 := Lib.hid (And.intro k2 (And.intro k3 k4)); (obtain ⟨⟨A, c, k5, k6, k7, -⟩, ⟨B, d, k8, k9, k10, -⟩⟩ := k1.shapes); subst k5 k8; clear k1 k2 k3 k4)
      unfold maxLen at k7 k10
      go_loopw [3] (fun jv wr => ∃ j : Nat, j ≤ s2.wait.length ∧ jv = .int .i64 j ∧ RBv wr b (at' s2 (fun _ => 32) j) (.slice A s2.is.length c) (.slice B s2.wait.length d) ∧ Keeps F1 w1 wr) (fun jv _ => s2.wait.length - (intOf jv).toNat)
      case atStart => exact ⟨0, Nat.zero_le _, rfl, P1.out, Keeps.refl _ _⟩
      case round =>
        obtain ⟨j, hj, rfl, hP, hK⟩ := hrel
        have P3 := Lib.hid hP
        have K3 := Lib.hid hK
        have d1 := hP.cells.2.1
        clear hP hK P1
        by_cases hlt : j < s2.wait.length
        · have hlI : (j : Int) < (s2.wait.length : Int) := by omega
          obtain ⟨x, hx⟩ : ∃ x, s2.wait[j]? = some x := ⟨_, List.getElem?_eq_getElem hlt⟩
          obtain ⟨hxi, hx32⟩ := HG.out.wt x (List.mem_of_getElem? hx)
          obtain ⟨⟨A1, c1, he1, -, -, hcI⟩, ⟨B1, c2', he2, -, -, hcW⟩⟩ := P3.out.shapes
          injection he1 with he1
          injection he2 with he2
          subst he1 he2
          obtain ⟨gw, rfl, hgw, w0, w1'⟩ := hcW j x hx
          have hdl : (done (fun _ => 32) s2.wait s2.is j).length = s2.is.length := done_length _ _ _ _
          have hxd : x.i < (done (fun _ => 32) s2.wait s2.is j).length := by rw [hdl]; exact hxi
          have hsec := done_sec (f := fun _ => 32) HG.out.sec HG.out.wt j x.i hxi
          have hold : (done (fun _ => 32) s2.wait s2.is j)[x.i]? = some ((done (fun _ => 32) s2.wait s2.is j).getD x.i []) := by rw [List.getD_eq_getElem?_getD, List.getElem?_eq_getElem hxd]; rfl
          obtain ⟨gi, rfl, hgi, i0⟩ := hcI x.i _ hold
          have HDS := Lib.hid (show (at' s2 (fun _ => 32) (j + 1)) = { at' s2 (fun _ => 32) j with is := (done (fun _ => 32) s2.wait s2.is j).set x.i x.b } from by unfold at'; rw [done_succ hx, mix_all hx32 hsec])
          have HDL := Lib.hid hdl
          generalize hod : (done (fun _ => 32) s2.wait s2.is j).getD x.i [] = old at i0
          have hj0 : (0 : Int) ≤ (j : Int) := by omega
          have hx0 : (0 : Int) ≤ (x.i : Int) := by omega
          have hx1 : (x.i : Int) < (s2.is.length : Int) := by omega
          have f0 := P3.out.cells.1
          have fz : wr.frozen? ⟨gi, x.i, none⟩ = false := by
            obtain ⟨cur, hcur⟩ := owns_type P3.out.is rfl
            unfold World.frozen?; simp only [hcur]; simp
          have HGI := Lib.hid (E1.out.2.2 gi (.inr (.inl rfl)))
          have FIN := Lib.hid (show RBv (wr.setCell ⟨gi, x.i, none⟩ (.string (str x.b))) b (at' s2 (fun _ => 32) (j + 1)) (.slice (some ⟨gi, 0, none⟩) s2.is.length c) (.slice (some ⟨gw, 0, none⟩) s2.wait.length d) from by
            rw [HDS.out]
            exact P3.out.setSec HDL.out.symm x.i _)
          clear hx hx32 hcI hcW hdl hxd hold hod hsec
          go_wp2
          go_region
          go_wp2
          go_roundw
          case rel => exact ⟨j + 1, by omega, by go_num, FIN.out.below ((Below.refl _ _).drew), (K3.out.set (b := gi) (o := x.i) (.inl HGI.out) _).drew⟩
          case measure => simp [intOf]; omega
        · obtain rfl : j = s2.wait.length := by omega
          have hlI : ¬ ((s2.wait.length : Int) < (s2.wait.length : Int)) := by omega
          have z1 := P3.out.row.frozen 1
          have PF := Lib.hid (RBv.setWaits (ws := []) (u := .slice none 0 0) P3.out.row P3.out.is (World.ownsRow_nil _ _ _ _))
          have hbF := E1.out.2.2 b (.inl rfl)
          have KF := Lib.hid (K3.out.set (b := b) (o := 1) (.inl hbF) (.slice none 0 0))
          clear hj
          go_wp2
          go_ret
          exact ⟨rfl, Goes.trans E1.out.1 E1.out.2.1 (Goes.ref PF.out hbF (fun k hk => .inl (E1.out.2.2 k (.inr (.inl hk)))) (fun k hk => by simp [Value.ownBlock] at hk) KF.out)⟩
  · rw [hgo] at c2
    have e1 : syncE s = 70 := by unfold syncE; rw [if_pos (.inl hgo)]
    have e2 : syncS s = s := by unfold syncS; rw [if_pos hgo]
    rw [e1, e2]
    clear e1 e2 hgo
    go_enter Tryz.func112, Tryz.ntmps112
    go_wp2
    go_ret
    exact ⟨rfl, Goes.same HP0.out (Keeps.refl _ _)⟩
end Go.Proofs.YtmmpknfkncgjpaaGreatDoor

namespace Go.Proofs.YtmmpknfkncgjpaaGreatDoor
open Go.RowKit

set_option maxRecDepth 100000 in
set_option maxHeartbeats 2000000 in
theorem rread_any (b : Nat) (s : St) (F : Nat → Prop) (i : Int) (w : World) (h : RB w b s F) :
    Calls Tryz.prog 96 #[.pointer (some ⟨b, 0, none⟩), .int .i64 i] w fun e w' => e = .returned (.tuple #[.string (str (readV s i)), .int .i64 (wrong s i)]) ∧ w = w' := by
  have HR := Lib.hid (rwrong_any b s F i w h)
  obtain ⟨vi, vw, h, -⟩ := h.v
  obtain ⟨c0, c1, -⟩ := h.cells
  obtain ⟨⟨A, c, rfl, hc1, hc2, hcI⟩, ⟨B, d, rfl, hd1, hd2, hcW⟩⟩ := h.shapes
  clear h
  by_cases hi : wrong s i = 0
  · have e1 : readV s i = readB s i.toNat := by unfold readV; rw [if_neg (by omega)]
    rw [e1, hi]
    rw [hi] at HR
    obtain ⟨-, h0, h1⟩ := wrong_zero hi
    obtain ⟨k, rfl⟩ : ∃ k : Nat, i = (k : Int) := ⟨i.toNat, by omega⟩
    rw [Int.toNat_natCast]
    have hk : k < s.is.length := by omega
    have hold : s.is[k]? = some (s.is.getD k []) := by rw [List.getD_eq_getElem?_getD, List.getElem?_eq_getElem hk]; rfl
    obtain ⟨gi, rfl, hgi, i0⟩ := hcI k _ hold
    have HCW := Lib.hid hcW
    unfold maxLen at hc2 hd2
    clear hcI hcW hold hi e1
    unfold readB
    generalize s.is.getD k [] = old at i0 ⊢
    go_enter Tryz.func96, Tryz.ntmps96
    go_wp2_with (go_at_call 127; refine HR.out.mono ?_; rintro e w1 ⟨rfl, rfl⟩)
    go_loop [7, 8] (fun sv jv => ∃ j : Nat, j ≤ s.wait.length ∧ jv = .int .i64 j ∧ sv = .string (str (seen s.wait k old j))) (fun _ jv => s.wait.length - (intOf jv).toNat)
    case atStart => exact ⟨0, Nat.zero_le _, rfl, rfl⟩
    case round =>
      obtain ⟨j, hj, rfl, rfl⟩ := hrel
      by_cases hlt : j < s.wait.length
      · have hlI : (j : Int) < (s.wait.length : Int) := by omega
        have hj0 : (0 : Int) ≤ (j : Int) := by omega
        obtain ⟨x, hx⟩ : ∃ x, s.wait[j]? = some x := ⟨_, List.getElem?_eq_getElem hlt⟩
        obtain ⟨gw, rfl, hgw, w0, w1⟩ := HCW.out j x hx
        have HS := Lib.hid (show seen s.wait k old (j + 1) = if x.i = k then x.b else seen s.wait k old j from by
          show (match s.wait[j]? with | none => seen s.wait k old j | some w => if w.i = k then w.b else seen s.wait k old j) = _
          rw [hx])
        clear hx
        generalize seen s.wait k old j = cur at HS ⊢
        by_cases hxk : x.i = k
        · have hS : seen s.wait k old (j + 1) = x.b := by rw [HS.out, if_pos hxk]
          have HS2 := Lib.hid hS
          have ht : ((x.i : Int) == (k : Int)) = true := by simp [hxk]
          clear hS hxk
          go_wp2
          go_round
          case rel => exact ⟨j + 1, by omega, by go_num, by rw [HS2.out]⟩
          case measure => simp [intOf]; omega
        · have hS : seen s.wait k old (j + 1) = cur := by rw [HS.out, if_neg hxk]
          have HS2 := Lib.hid hS
          have ht : ((x.i : Int) == (k : Int)) = false := by simp; omega
          clear hS hxk
          go_wp2
          go_round
          case rel => exact ⟨j + 1, by omega, by go_num, by rw [HS2.out]⟩
          case measure => simp [intOf]; omega
      · obtain rfl : j = s.wait.length := by omega
        have hlI : ¬ ((s.wait.length : Int) < (s.wait.length : Int)) := by omega
        clear hj
        go_wp2
        go_ret2
        exact ⟨rfl, rfl⟩
  · have e1 : readV s i = [] := by unfold readV; rw [if_pos hi]
    rw [e1]
    generalize wrong s i = x at HR hi ⊢
    have hx : (x == 0) = false := by simpa using hi
    clear hcI hcW e1
    go_enter Tryz.func96, Tryz.ntmps96
    go_wp2_with (go_at_call 127; refine HR.out.mono ?_; rintro e w1 ⟨rfl, rfl⟩)
    go_ret2
    exact ⟨rfl, rfl⟩
end Go.Proofs.YtmmpknfkncgjpaaGreatDoor

namespace Go.Proofs.YtmmpknfkncgjpaaGreatDoor
open Go.RowKit

theorem info_wr : (Tryz.prog.info? 137).map (fun i => (i.zero, i.size, i.bytes)) = some (some (.agg #[.int .i64 0, .string ⟨#[]⟩]), 2, 24) := by kernel_rfl

theorem rflat_one (x : Wr) : [x].flatMap rcells = rcells x := by simp
theorem rflat_length (ws : List Wr) : (ws.flatMap rcells).length = ws.length * 2 := by
  induction ws with
  | nil => rfl
  | cons x l ih => rw [List.flatMap_cons, List.length_append, ih]; simp [rcells]; omega
theorem rflat_oneCell (ws : List Wr) : ∀ u ∈ ws.flatMap rcells, u.oneCell' = true := by
  intro u hu
  simp only [List.mem_flatMap] at hu
  obtain ⟨x, _, hu⟩ := hu
  simp only [rcells, List.mem_cons, List.not_mem_nil, or_false] at hu
  rcases hu with rfl | rfl <;> rfl

/-- An empty row: nothing is appended to it. -/
theorem append_none (w : World) (z d : Nat) (B : Option Addr) : (Builtin.append_ #[44, 44] 44 #[.slice (some ⟨z, 0, none⟩) 0 0, .slice B 0 d]).run Tryz.prog w = .ok (.slice (some ⟨z, 0, none⟩) 0 0) w := by
  obtain ⟨i0, hi0, hz0, hz1, hz2⟩ := info_parts info_wr
  cases B <;> simp [Builtin.append_, run_underlying Tryz.underlying44, sizeOf, typeInfo, hi0, Builtin.lenOf, Builtin.firstCells, storeCells, loadCells, loadCellsFrom]
/-- What waits is appended to an empty row. -/
theorem append_all (w : World) (ws : List Wr) (B : Option Addr) (d : Nat) (hn : ws.length ≤ 1000)
    (hB : ∀ i x, ws[i]? = some x → ∃ g, B = some ⟨g, 0, none⟩ ∧ g < w.heap.size ∧ w.cell? ⟨g, i * 2, none⟩ = some (.int .i64 (x.i : Int)) ∧ w.cell? ⟨g, i * 2 + 1, none⟩ = some (.string (str x.b))) :
    ∃ g cap w2, (Builtin.append_ #[44, 44] 44 #[.slice (some ⟨w.heap.size, 0, none⟩) 0 0, .slice B ws.length d]).run Tryz.prog (w.alloc (.cells #[] 137)) = .ok (.slice (some ⟨g, 0, none⟩) ws.length cap) w2 ∧
      w2.ownsRow 0 137 2 (.slice (some ⟨g, 0, none⟩) ws.length cap) ws.length (ws.flatMap rcells) ∧ Below w.heap.size w w2 ∧ w.heap.size ≤ g := by
  have hown : (w.alloc (.cells #[] 137)).ownsRow 0 137 2 (.slice (some ⟨w.heap.size, 0, none⟩) 0 0) 0 [] :=
    World.ownsRow_lit (base := 0) (e := 137) (size := 2) w #[] 0 (Nat.zero_le _) (by simp) rfl
  have hb : Below w.heap.size w (w.alloc (.cells #[] 137)) := (Below.refl _ _).alloc (Nat.le_refl _) _
  by_cases h0 : ws = []
  · subst h0
    exact ⟨w.heap.size, 0, _, append_none _ _ _ _, hown, hb, Nat.le_refl _⟩
  · have hpos : 0 < ws.length := List.length_pos_iff.2 h0
    obtain ⟨i0, hi0, hz0, hz1, hz2⟩ := info_parts info_wr
    obtain ⟨gw, rfl, hgw, -⟩ := hB 0 _ (List.getElem?_eq_getElem hpos)
    obtain ⟨g, cap, w2, h1, h2, h3, h4, -⟩ := run_append_lies (P := Tryz.prog) (w.alloc (.cells #[] 137)) 44 44 0 137 i0 _ 2 24 Tryz.underlying44 hi0 hz0 hz1 hz2 rfl (by omega) _ 0 [] hown
      ⟨gw, 0, none⟩ ws.length d (ws.flatMap rcells) (rflat_length ws) (fun q u hu => by
        have hq : q < ws.length * 2 := by have := (List.getElem?_eq_some_iff.1 hu).1; rw [rflat_length] at this; exact this
        have hj : q / 2 < ws.length := by omega
        obtain ⟨g', hg', -, c0, c1⟩ := hB (q / 2) _ (List.getElem?_eq_getElem hj)
        simp only [Option.some.injEq, Addr.mk.injEq, and_true] at hg'
        subst hg'
        have he := flatMap_get rcells 2 ws (rcells_two ws) (q / 2) _ (List.getElem?_eq_getElem hj) (q % 2) (Nat.mod_lt _ (by omega))
        rw [show q / 2 * 2 + q % 2 = q by omega, hu] at he
        rw [Go.WideShapes.add_plain, Nat.zero_add]
        rcases Nat.mod_two_eq_zero_or_one q with h | h
        · rw [h] at he
          simp only [rcells, List.getElem?_cons_zero, Option.some.injEq] at he
          rw [he, hb.cell (p := ⟨gw, q, none⟩) hgw]
          have : q / 2 * 2 = q := by omega
          rw [this] at c0; exact c0
        · rw [h] at he
          simp only [rcells, List.getElem?_cons_succ, List.getElem?_cons_zero, Option.some.injEq] at he
          rw [he, hb.cell (p := ⟨gw, q, none⟩) hgw]
          have : q / 2 * 2 + 1 = q := by omega
          rw [this] at c1; exact c1)
      (rflat_oneCell ws) hpos (by unfold maxLen; omega) (by omega) (Nat.zero_le _) (w.heap.size + 1) (by simp)
    refine ⟨g, cap, w2, by simpa using h1, by simpa using h2, hb.grown h3 (by simp) (fun k hk => by simp [Value.ownBlock] at hk; omega), ?_⟩
    rcases h4 with h | h
    · simp [Value.ownBlock] at h; omega
    · omega
/-- One more write is appended. -/
theorem append_wr (w : World) (v : Value) (n : Nat) (xs : List Value) (hown : w.ownsRow 0 137 2 v n xs) (x : Wr) (hn : n ≤ 1000) :
    ∃ g cap w2, (Builtin.append_ #[44, 44] 44 #[v, .slice (some ⟨w.heap.size, 0, none⟩) 1 1]).run Tryz.prog (w.alloc (.cells #[.int .i64 (x.i : Int), .string (str x.b)] 137)) = .ok (.slice (some ⟨g, 0, none⟩) (n + 1) cap) w2 ∧
      w2.ownsRow 0 137 2 (.slice (some ⟨g, 0, none⟩) (n + 1) cap) (n + 1) (xs ++ rcells x) ∧ (w.alloc (.cells #[.int .i64 (x.i : Int), .string (str x.b)] 137)).grownBy w2 v.ownBlock ∧ (v.ownBlock = some g ∨ g = w.heap.size + 1) := by
  obtain ⟨i0, hi0, hz0, hz1, hz2⟩ := info_parts info_wr
  obtain ⟨g, cap, w2, h1, h2, h3, h4, -⟩ := run_append_lies (P := Tryz.prog) (w.alloc (.cells #[.int .i64 (x.i : Int), .string (str x.b)] 137)) 44 44 0 137 i0 _ 2 24 Tryz.underlying44 hi0 hz0 hz1 hz2 rfl (by omega) v n xs (owns_below hown ((Below.refl _ w).alloc (Nat.le_refl _) _))
    ⟨w.heap.size, 0, none⟩ 1 1 (rcells x) rfl (fun q u hu => World.news_of_block (cs := #[.int .i64 (x.i : Int), .string (str x.b)]) (t := 137) (fr := (0, 0)) (heap_alloc_new w _) q u hu) (fun u hu => by rw [← rflat_one] at hu; exact rflat_oneCell _ u hu) (by omega) (by unfold maxLen; omega) (by omega) (by simp) (w.heap.size + 1) (by simp)
  exact ⟨g, cap, w2, h1, h2, h3, h4⟩

attribute [local go_sem ↓] Go.wp_at_zero Go.wp_at_succ wp_appL

set_option maxRecDepth 100000 in
set_option maxHeartbeats 4000000 in
theorem rwrite_yes (b : Nat) (s : St) (F : Nat → Prop) (i : Nat) (t : ByteArray) (w : World) (h : RB w b s F) (hg : Good s) (hi : wrong s (i : Int) = 0) (ht : t.size ≤ 32) (hn : s.wait.length ≤ 900) (hc : s.n ≤ 1000000) :
    Calls Tryz.prog 111 #[.pointer (some ⟨b, 0, none⟩), .int .i64 (i : Int), .string t] w fun e w' => e = .returned (.int .i64 (countE s)) ∧ Goes F w w' (RB w' b (count (add s i t))) := by
  have HR := Lib.hid (rwrong_any b s F i w h)
  rw [hi] at HR
  have hbF := h.mem
  have hbl := h.lt b hbF
  have HGA := Lib.hid (hg.add hi ht)
  obtain ⟨vi, vw, h, hF⟩ := h.v
  obtain ⟨-, ⟨B, d, hvw, hd1, hd2, hcW⟩⟩ := h.shapes
  obtain ⟨g1, cap1, w2, hrun1, hown1, hbw1, hg1⟩ := append_all w s.wait B d (by omega) hcW
  obtain ⟨ha1, ha2, ha3⟩ := app_of hrun1
  subst hvw
  have hadd : add s (i : Int) t = { s with wait := s.wait ++ [⟨i, pad t⟩] } := by unfold add; rw [Int.toNat_natCast]
  rw [hadd] at HGA ⊢
  have HLC := Lib.hid (show lastC { s with wait := s.wait ++ [⟨i, pad t⟩] } = lastC s from rfl)
  have HZ := Lib.hid (fun w => rzeros_any (32 - t.size) (by omega) w)
  rw [show ((32 - t.size : Nat) : Int) = 32 - (t.size : Int) by omega] at HZ
  have hty : t ++ str (zeros (32 - t.size)) = str (pad t) := by
    conv => lhs; rw [← str_of t]
    rw [strL_append, str_of]; rfl
  have hzs : (str (zeros (32 - t.size))).size = 32 - t.size := by rw [str_size]; simp [zeros]
  have hb0 : Below w.heap.size w (w.alloc (.cells #[] 137)) := (Below.refl _ _).alloc (Nat.le_refl _) _
  have c1 := (h.below hb0).cells.2.1
  have P2 := Lib.hid (h.below hbw1)
  have HO1 := Lib.hid hown1
  have HB1 := Lib.hid hbw1
  have HF := Lib.hid hF
  have HCN := Lib.hid hc
  have htI : ¬ ((32 : Int) < (t.size : Int)) := by omega
  clear h hF hi hg hrun1 hown1 hbw1 hcW hadd hb0 hc
  have hce : countE s = if lastC s then 70 else 0 := by unfold countE lastC; simp
  rw [hce]
  cases hlast : lastC s
  all_goals
    rw [hlast] at HLC
    try rw [if_pos rfl]
    try rw [if_neg (by decide)]
    clear hce hlast
    go_enter Tryz.func111, Tryz.ntmps111
    go_wp2_with (first
      | (go_at_call 127; refine HR.out.mono ?_; rintro e w1 ⟨rfl, rfl⟩)
      | (go_at_call 66; refine (HZ.out _).mono ?_; rintro e wz ⟨rfl, kz⟩; (have Pz := Lib.hid (P2.out.below kz)); (have Oz := Lib.hid (owns_below HO1.out kz)); (have Bz := Lib.hid (HB1.out.trans (kz.mono HB1.out.size))); (obtain ⟨g2, cap2, w5, hrun2, hown2, hgrow, hat⟩ := append_wr wz _ _ _ Oz.out ⟨i, pad t⟩ (by omega)); (obtain ⟨hd1', hd2', hd3'⟩ := app_of hrun2); (have Pa := Lib.hid (Pz.out.below ((Below.refl _ wz).alloc (Nat.le_refl _) (.cells #[.int .i64 (i : Int), .string (str (pad t))] 137)))); (have hne : ¬ b = g1 := by omega); (have hc5 : w5.cell? ⟨b, 1, none⟩ = some (.slice B s.wait.length d) := by rw [hgrow.cell_far _ Pa.out.row.lt (by simp [Value.ownBlock]; omega)]; exact Pa.out.cells.2.1); (have hf5 : w5.frozen? ⟨b, 1, none⟩ = false := by rw [hgrow.frozen_far _ Pa.out.row.lt (by simp [Value.ownBlock]; omega)]; exact Pa.out.row.frozen 1); have HO2 := Lib.hid hown2; have HW2 := Lib.hid hgrow; have HT2 := Lib.hid hat; (have P6 := Lib.hid (RBv.setWaits (ws := s.wait ++ [⟨i, pad t⟩]) (Pa.out.row.of_block (hgrow.block b Pa.out.row.lt (fun e => hne (by simpa [Value.ownBlock] using e)))) (owns_kept Pa.out.is (fun k hk => hgrow.block k (owns_lt Pa.out.is hk) (fun e => owns_ne2 Pz.out.is Oz.out (by decide) hk e.symm))) (by rw [List.flatMap_append, rflat_one]; simpa using hown2))); clear kz hrun2 hown2 hgrow hat)
      | (go_at_call 138; refine (rcounted_any b { s with wait := s.wait ++ [⟨i, pad t⟩] } _ _ P6.out.rb HGA.out HCN.out).mono ?_; rw [HLC.out]; rintro e w7 ⟨rfl, k7⟩; have K7 := Lib.hid k7; clear k7)

      | fail)
    go_ret
    refine ⟨rfl, Goes.trans (fun k hk => ?_) ?_ K7.out⟩
    · rcases hk with rfl | hk | hk
      · exact .inl hbF
      · exact .inl (HF.out k (.inr (.inl hk)))
      · simp only [Value.ownBlock, Option.some.injEq] at hk
        subst hk
        have := Bz.out.size
        rcases HT2.out with h | h
        · simp [Value.ownBlock] at h; exact .inr (by omega)
        · exact .inr (by omega)
    · exact (Keeps.of_below (((Bz.out.alloc Bz.out.size _).grown HW2.out (by have := Bz.out.size; simp; omega) (fun k hk => by simp [Value.ownBlock] at hk; omega)))).set (b := b) (o := 1) (.inl hbF) _

set_option maxRecDepth 100000 in
set_option maxHeartbeats 2000000 in
theorem rwrite_any (b : Nat) (s : St) (F : Nat → Prop) (i : Int) (t : ByteArray) (w : World) (h : RB w b s F) (hg : Good s) (hn : s.wait.length ≤ 900) (hc : s.n ≤ 1000000) (ht : t.size ≤ 9223372036854775807) :
    Calls Tryz.prog 111 #[.pointer (some ⟨b, 0, none⟩), .int .i64 i, .string t] w fun e w' => e = .returned (.int .i64 (writeE s i t)) ∧ Goes F w w' (RB w' b (writeS s i t)) := by
  by_cases hi : wrong s i = 0
  · by_cases h32 : t.size ≤ 32
    · have e1 : writeE s i t = countE s := by unfold writeE; rw [if_neg (by omega), if_neg (by omega)]
      have e2 : writeS s i t = count (add s i t) := by unfold writeS; rw [if_neg (by omega)]
      rw [e1, e2]
      have hi0 := (wrong_zero hi).2.1
      have := rwrite_yes b s F i.toNat t w h hg (by rw [show (i.toNat : Int) = i by omega]; exact hi) h32 hn hc
      rw [show (i.toNat : Int) = i by omega] at this
      exact this
    · have e1 : writeE s i t = 11 := by unfold writeE; rw [if_neg (by omega), if_pos (by omega)]
      have e2 : writeS s i t = s := by unfold writeS; rw [if_pos (by omega)]
      rw [e1, e2]
      have HP := Lib.hid h
      have HR := Lib.hid (rwrong_any b s F i w h)
      rw [hi] at HR
      have htI : (32 : Int) < (t.size : Int) := by omega
      clear h hg hi e1 e2 h32
      go_enter Tryz.func111, Tryz.ntmps111
      go_wp2_with (go_at_call 127; refine HR.out.mono ?_; rintro e w1 ⟨rfl, rfl⟩)
      go_ret
      exact ⟨rfl, Goes.same HP.out (Keeps.refl _ _)⟩
  · have e1 : writeE s i t = wrong s i := by unfold writeE; rw [if_pos hi]
    have e2 : writeS s i t = s := by unfold writeS; rw [if_pos (.inl hi)]
    rw [e1, e2]
    have HP := Lib.hid h
    have HR := Lib.hid (rwrong_any b s F i w h)
    generalize wrong s i = x at HR hi ⊢
    have hx : (x == 0) = false := by simpa using hi
    clear h hg e1 e2
    go_enter Tryz.func111, Tryz.ntmps111
    go_wp2_with (go_at_call 127; refine HR.out.mono ?_; rintro e w1 ⟨rfl, rfl⟩)
    go_ret
    exact ⟨rfl, Goes.same HP.out (Keeps.refl _ _)⟩
end Go.Proofs.YtmmpknfkncgjpaaGreatDoor
