/-
  The document's own Write (weirkeepref07), by a contract.
-/
import Derived.Test.YtmmpknfkncgjpaaGreatDoorM05
import Derived.Test.YtmmpknfkncgjpaaGreatDoorM06
namespace Go.Proofs.YtmmpknfkncgjpaaGreatDoor
open Go.RowKit

theorem info_wr : (Tryz.prog.info? 137).map (fun i => (i.zero, i.size, i.bytes)) = some (some (.agg #[.int .i64 0, .string ⟨#[]⟩]), 2, 24) := by kernel_rfl

theorem rflat_one (x : Wr) : [x].flatMap rcells = rcells x := by simp
theorem rflat_length (ws : List Wr) : (ws.flatMap rcells).length = ws.length * 2 := by
  induction ws with
  | nil => rfl
  | cons x l ih => rw [List.flatMap_cons, List.length_append, ih]; simp [rcells]; omega
theorem rflat_oneCell (ws : List Wr) : ∀ u ∈ ws.flatMap rcells, u.oneCell' = true := by
  intro u hu
  simp only [List.mem_flatMap] at hu
  obtain ⟨x, _, hu⟩ := hu
  simp only [rcells, List.mem_cons, List.not_mem_nil, or_false] at hu
  rcases hu with rfl | rfl <;> rfl

/-- An empty row: nothing is appended to it. -/
theorem append_none (w : World) (z d : Nat) (B : Option Addr) : (Builtin.append_ #[44, 44] 44 #[.slice (some ⟨z, 0, none⟩) 0 0, .slice B 0 d]).run Tryz.prog w = .ok (.slice (some ⟨z, 0, none⟩) 0 0) w := by
  obtain ⟨i0, hi0, hz0, hz1, hz2⟩ := info_parts info_wr
  cases B <;> simp [Builtin.append_, run_underlying Tryz.underlying44, sizeOf, typeInfo, hi0, Builtin.lenOf, Builtin.firstCells, storeCells, loadCells, loadCellsFrom]
/-- What waits is appended to an empty row. -/
theorem append_all (w : World) (ws : List Wr) (B : Option Addr) (d : Nat) (hn : ws.length ≤ 1000)
    (hB : ∀ i x, ws[i]? = some x → ∃ g, B = some ⟨g, 0, none⟩ ∧ g < w.heap.size ∧ w.cell? ⟨g, i * 2, none⟩ = some (.int .i64 (x.i : Int)) ∧ w.cell? ⟨g, i * 2 + 1, none⟩ = some (.string (str x.b))) :
    ∃ g cap w2, (Builtin.append_ #[44, 44] 44 #[.slice (some ⟨w.heap.size, 0, none⟩) 0 0, .slice B ws.length d]).run Tryz.prog (w.alloc (.cells #[] 137)) = .ok (.slice (some ⟨g, 0, none⟩) ws.length cap) w2 ∧
      w2.ownsRow 0 137 2 (.slice (some ⟨g, 0, none⟩) ws.length cap) ws.length (ws.flatMap rcells) ∧ Below w.heap.size w w2 ∧ w.heap.size ≤ g := by
  have hown : (w.alloc (.cells #[] 137)).ownsRow 0 137 2 (.slice (some ⟨w.heap.size, 0, none⟩) 0 0) 0 [] :=
    World.ownsRow_lit (base := 0) (e := 137) (size := 2) w #[] 0 (Nat.zero_le _) (by simp) rfl
  have hb : Below w.heap.size w (w.alloc (.cells #[] 137)) := (Below.refl _ _).alloc (Nat.le_refl _) _
  by_cases h0 : ws = []
  · subst h0
    exact ⟨w.heap.size, 0, _, append_none _ _ _ _, hown, hb, Nat.le_refl _⟩
  · have hpos : 0 < ws.length := List.length_pos_iff.2 h0
    obtain ⟨i0, hi0, hz0, hz1, hz2⟩ := info_parts info_wr
    obtain ⟨gw, rfl, hgw, -⟩ := hB 0 _ (List.getElem?_eq_getElem hpos)
    obtain ⟨g, cap, w2, h1, h2, h3, h4, -⟩ := run_append_lies (P := Tryz.prog) (w.alloc (.cells #[] 137)) 44 44 0 137 i0 _ 2 24 Tryz.underlying44 hi0 hz0 hz1 hz2 rfl (by omega) _ 0 [] hown
      ⟨gw, 0, none⟩ ws.length d (ws.flatMap rcells) (rflat_length ws) (fun q u hu => by
        have hq : q < ws.length * 2 := by have := (List.getElem?_eq_some_iff.1 hu).1; rw [rflat_length] at this; exact this
        have hj : q / 2 < ws.length := by omega
        obtain ⟨g', hg', -, c0, c1⟩ := hB (q / 2) _ (List.getElem?_eq_getElem hj)
        simp only [Option.some.injEq, Addr.mk.injEq, and_true] at hg'
        subst hg'
        have he := flatMap_get rcells 2 ws (rcells_two ws) (q / 2) _ (List.getElem?_eq_getElem hj) (q % 2) (Nat.mod_lt _ (by omega))
        rw [show q / 2 * 2 + q % 2 = q by omega, hu] at he
        rw [Go.WideShapes.add_plain, Nat.zero_add]
        rcases Nat.mod_two_eq_zero_or_one q with h | h
        · rw [h] at he
          simp only [rcells, List.getElem?_cons_zero, Option.some.injEq] at he
          rw [he, hb.cell (p := ⟨gw, q, none⟩) hgw]
          have : q / 2 * 2 = q := by omega
          rw [this] at c0; exact c0
        · rw [h] at he
          simp only [rcells, List.getElem?_cons_succ, List.getElem?_cons_zero, Option.some.injEq] at he
          rw [he, hb.cell (p := ⟨gw, q, none⟩) hgw]
          have : q / 2 * 2 + 1 = q := by omega
          rw [this] at c1; exact c1)
      (rflat_oneCell ws) hpos (by unfold maxLen; omega) (by omega) (Nat.zero_le _) (w.heap.size + 1) (by simp)
    refine ⟨g, cap, w2, by simpa using h1, by simpa using h2, hb.grown h3 (by simp) (fun k hk => by simp [Value.ownBlock] at hk; omega), ?_⟩
    rcases h4 with h | h
    · simp [Value.ownBlock] at h; omega
    · omega
/-- One more write is appended. -/
theorem append_wr (w : World) (v : Value) (n : Nat) (xs : List Value) (hown : w.ownsRow 0 137 2 v n xs) (x : Wr) (hn : n ≤ 1000) :
    ∃ g cap w2, (Builtin.append_ #[44, 44] 44 #[v, .slice (some ⟨w.heap.size, 0, none⟩) 1 1]).run Tryz.prog (w.alloc (.cells #[.int .i64 (x.i : Int), .string (str x.b)] 137)) = .ok (.slice (some ⟨g, 0, none⟩) (n + 1) cap) w2 ∧
      w2.ownsRow 0 137 2 (.slice (some ⟨g, 0, none⟩) (n + 1) cap) (n + 1) (xs ++ rcells x) ∧ (w.alloc (.cells #[.int .i64 (x.i : Int), .string (str x.b)] 137)).grownBy w2 v.ownBlock ∧ (v.ownBlock = some g ∨ g = w.heap.size + 1) := by
  obtain ⟨i0, hi0, hz0, hz1, hz2⟩ := info_parts info_wr
  obtain ⟨g, cap, w2, h1, h2, h3, h4, -⟩ := run_append_lies (P := Tryz.prog) (w.alloc (.cells #[.int .i64 (x.i : Int), .string (str x.b)] 137)) 44 44 0 137 i0 _ 2 24 Tryz.underlying44 hi0 hz0 hz1 hz2 rfl (by omega) v n xs (owns_below hown ((Below.refl _ w).alloc (Nat.le_refl _) _))
    ⟨w.heap.size, 0, none⟩ 1 1 (rcells x) rfl (fun q u hu => World.news_of_block (cs := #[.int .i64 (x.i : Int), .string (str x.b)]) (t := 137) (fr := (0, 0)) (heap_alloc_new w _) q u hu) (fun u hu => by rw [← rflat_one] at hu; exact rflat_oneCell _ u hu) (by omega) (by unfold maxLen; omega) (by omega) (by simp) (w.heap.size + 1) (by simp)
  exact ⟨g, cap, w2, h1, h2, h3, h4⟩

attribute [local go_sem ↓] Go.wp_at_zero Go.wp_at_succ wp_appL

set_option maxRecDepth 100000 in
set_option maxHeartbeats 4000000 in
theorem rwrite_yes (b : Nat) (s : St) (F : Nat → Prop) (i : Nat) (t : ByteArray) (w : World) (h : RB w b s F) (hg : Good s) (hi : wrong s (i : Int) = 0) (ht : t.size ≤ 32) (hn : s.wait.length ≤ 900) (hc : s.n ≤ 1000000) :
    Calls Tryz.prog 111 #[.pointer (some ⟨b, 0, none⟩), .int .i64 (i : Int), .string t] w fun e w' => e = .returned (.int .i64 (countE s)) ∧ Goes F w w' (RB w' b (count (add s i t))) := by
  have HR := Lib.hid (rwrong_any b s F i w h)
  rw [hi] at HR
  have hbF := h.mem
  have hbl := h.lt b hbF
  have HGA := Lib.hid (hg.add hi ht)
  obtain ⟨vi, vw, h, hF⟩ := h.v
  obtain ⟨-, ⟨B, d, hvw, hd1, hd2, hcW⟩⟩ := h.shapes
  obtain ⟨g1, cap1, w2, hrun1, hown1, hbw1, hg1⟩ := append_all w s.wait B d (by omega) hcW
  obtain ⟨ha1, ha2, ha3⟩ := app_of hrun1
  subst hvw
  have hadd : add s (i : Int) t = { s with wait := s.wait ++ [⟨i, pad t⟩] } := by unfold add; rw [Int.toNat_natCast]
  rw [hadd] at HGA ⊢
  have HLC := Lib.hid (show lastC { s with wait := s.wait ++ [⟨i, pad t⟩] } = lastC s from rfl)
  have HZ := Lib.hid (fun w => rzeros_any (32 - t.size) (by omega) w)
  rw [show ((32 - t.size : Nat) : Int) = 32 - (t.size : Int) by omega] at HZ
  have hty : t ++ str (zeros (32 - t.size)) = str (pad t) := by
    conv => lhs; rw [← str_of t]
    rw [strL_append, str_of]; rfl
  have hzs : (str (zeros (32 - t.size))).size = 32 - t.size := by rw [str_size]; simp [zeros]
  have hb0 : Below w.heap.size w (w.alloc (.cells #[] 137)) := (Below.refl _ _).alloc (Nat.le_refl _) _
  have c1 := (h.below hb0).cells.2.1
  have P2 := Lib.hid (h.below hbw1)
  have HO1 := Lib.hid hown1
  have HB1 := Lib.hid hbw1
  have HF := Lib.hid hF
  have HCN := Lib.hid hc
  have htI : ¬ ((32 : Int) < (t.size : Int)) := by omega
  clear h hF hi hg hrun1 hown1 hbw1 hcW hadd hb0 hc
  have hce : countE s = if lastC s then 70 else 0 := by unfold countE lastC; simp
  rw [hce]
  cases hlast : lastC s
  all_goals
    rw [hlast] at HLC
    try rw [if_pos rfl]
    try rw [if_neg (by decide)]
    clear hce hlast
    go_enter Tryz.func111, Tryz.ntmps111
    go_wp2_with (first
      | (go_at_call 127; refine HR.out.mono ?_; rintro e w1 ⟨rfl, rfl⟩)
      | (go_at_call 66; refine (HZ.out _).mono ?_; rintro e wz ⟨rfl, kz⟩; (have Pz := Lib.hid (P2.out.below kz)); (have Oz := Lib.hid (owns_below HO1.out kz)); (have Bz := Lib.hid (HB1.out.trans (kz.mono HB1.out.size))); (obtain ⟨g2, cap2, w5, hrun2, hown2, hgrow, hat⟩ := append_wr wz _ _ _ Oz.out ⟨i, pad t⟩ (by omega)); (obtain ⟨hd1', hd2', hd3'⟩ := app_of hrun2); (have Pa := Lib.hid (Pz.out.below ((Below.refl _ wz).alloc (Nat.le_refl _) (.cells #[.int .i64 (i : Int), .string (str (pad t))] 137)))); (have hne : ¬ b = g1 := by omega); (have hc5 : w5.cell? ⟨b, 1, none⟩ = some (.slice B s.wait.length d) := by rw [hgrow.cell_far _ Pa.out.row.lt (by simp [Value.ownBlock]; omega)]; exact Pa.out.cells.2.1); (have hf5 : w5.frozen? ⟨b, 1, none⟩ = false := by rw [hgrow.frozen_far _ Pa.out.row.lt (by simp [Value.ownBlock]; omega)]; exact Pa.out.row.frozen 1); have HO2 := Lib.hid hown2; have HW2 := Lib.hid hgrow; have HT2 := Lib.hid hat; (have P6 := Lib.hid (RBv.setWaits (ws := s.wait ++ [⟨i, pad t⟩]) (Pa.out.row.of_block (hgrow.block b Pa.out.row.lt (fun e => hne (by simpa [Value.ownBlock] using e)))) (owns_kept Pa.out.is (fun k hk => hgrow.block k (owns_lt Pa.out.is hk) (fun e => owns_ne2 Pz.out.is Oz.out (by decide) hk e.symm))) (by rw [List.flatMap_append, rflat_one]; simpa using hown2))); clear kz hrun2 hown2 hgrow hat)
      | (go_at_call 138; refine (rcounted_any b { s with wait := s.wait ++ [⟨i, pad t⟩] } _ _ P6.out.rb HGA.out HCN.out).mono ?_; rw [HLC.out]; rintro e w7 ⟨rfl, k7⟩; have K7 := Lib.hid k7; clear k7)

      | fail)
    go_ret
    refine ⟨rfl, Goes.trans (fun k hk => ?_) ?_ K7.out⟩
    · rcases hk with rfl | hk | hk
      · exact .inl hbF
      · exact .inl (HF.out k (.inr (.inl hk)))
      · simp only [Value.ownBlock, Option.some.injEq] at hk
        subst hk
        have := Bz.out.size
        rcases HT2.out with h | h
        · simp [Value.ownBlock] at h; exact .inr (by omega)
        · exact .inr (by omega)
    · exact (Keeps.of_below (((Bz.out.alloc Bz.out.size _).grown HW2.out (by have := Bz.out.size; simp; omega) (fun k hk => by simp [Value.ownBlock] at hk; omega)))).set (b := b) (o := 1) (.inl hbF) _

set_option maxRecDepth 100000 in
set_option maxHeartbeats 2000000 in
theorem rwrite_any (b : Nat) (s : St) (F : Nat → Prop) (i : Int) (t : ByteArray) (w : World) (h : RB w b s F) (hg : Good s) (hn : s.wait.length ≤ 900) (hc : s.n ≤ 1000000) (ht : t.size ≤ 9223372036854775807) :
    Calls Tryz.prog 111 #[.pointer (some ⟨b, 0, none⟩), .int .i64 i, .string t] w fun e w' => e = .returned (.int .i64 (writeE s i t)) ∧ Goes F w w' (RB w' b (writeS s i t)) := by
  by_cases hi : wrong s i = 0
  · by_cases h32 : t.size ≤ 32
    · have e1 : writeE s i t = countE s := by unfold writeE; rw [if_neg (by omega), if_neg (by omega)]
      have e2 : writeS s i t = count (add s i t) := by unfold writeS; rw [if_neg (by omega)]
      rw [e1, e2]
      have hi0 := (wrong_zero hi).2.1
      have := rwrite_yes b s F i.toNat t w h hg (by rw [show (i.toNat : Int) = i by omega]; exact hi) h32 hn hc
      rw [show (i.toNat : Int) = i by omega] at this
      exact this
    · have e1 : writeE s i t = 11 := by unfold writeE; rw [if_neg (by omega), if_pos (by omega)]
      have e2 : writeS s i t = s := by unfold writeS; rw [if_pos (by omega)]
      rw [e1, e2]
      have HP := Lib.hid h
      have HR := Lib.hid (rwrong_any b s F i w h)
      rw [hi] at HR
      have htI : (32 : Int) < (t.size : Int) := by omega
      clear h hg hi e1 e2 h32
      go_enter Tryz.func111, Tryz.ntmps111
      go_wp2_with (go_at_call 127; refine HR.out.mono ?_; rintro e w1 ⟨rfl, rfl⟩)
      go_ret
      exact ⟨rfl, Goes.same HP.out (Keeps.refl _ _)⟩
  · have e1 : writeE s i t = wrong s i := by unfold writeE; rw [if_pos hi]
    have e2 : writeS s i t = s := by unfold writeS; rw [if_pos (.inl hi)]
    rw [e1, e2]
    have HP := Lib.hid h
    have HR := Lib.hid (rwrong_any b s F i w h)
    generalize wrong s i = x at HR hi ⊢
    have hx : (x == 0) = false := by simpa using hi
    clear h hg e1 e2
    go_enter Tryz.func111, Tryz.ntmps111
    go_wp2_with (go_at_call 127; refine HR.out.mono ?_; rintro e w1 ⟨rfl, rfl⟩)
    go_ret
    exact ⟨rfl, Goes.same HP.out (Keeps.refl _ _)⟩
end Go.Proofs.YtmmpknfkncgjpaaGreatDoor
