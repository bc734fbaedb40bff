/-
  Parse (package shelf), by a contract.
-/
import Derived.Test.YtacdbfaoeioflaaGreatDoorRecord
import Derived.Laws.Tables
namespace Go.Proofs.YtacdbfaoeioflaaGreatDoor
open Go.RowKit Go.PlainAid Go.Lib

/-- The block x is all that block b has. -/
def AB (w : World) (b : Nat) (x : Bk) : Prop := w.heap[b]? = some (.cells x.cells 37 (0, 0))
theorem AB.fresh (w : World) (x : Bk) : AB (w.alloc (.cells x.cells 37)) w.heap.size x := heap_alloc_new w _
theorem AB.lt {w : World} {b : Nat} {x : Bk} (h : AB w b x) : b < w.heap.size := (Array.getElem?_eq_some_iff.1 h).1
theorem AB.below {w w' : World} {b : Nat} {x : Bk} (h : AB w b x) (hb : Below w.heap.size w w') : AB w' b x := by
  unfold AB; rw [hb.block b h.lt]; exact h
theorem AB.cell {w : World} {b : Nat} {x : Bk} (h : AB w b x) (i : Nat) : w.cell? ⟨b, i, none⟩ = x.cells[i]? := by
  unfold World.cell?; simp only [show w.heap[b]? = _ from h]; rfl
theorem AB.all {w : World} {b : Nat} {x : Bk} (h : AB w b x) : w.cell? ⟨b, 0, none⟩ = some (.int .i64 x.id) ∧ w.cell? ⟨b, 1, none⟩ = some (.int .i64 x.ver) ∧ w.cell? ⟨b, 2, none⟩ = some (.string x.data) := ⟨h.cell 0, h.cell 1, h.cell 2⟩
theorem AB.free {w : World} {b : Nat} {x : Bk} (h : AB w b x) (i : Nat) : w.frozen? ⟨b, i, none⟩ = false := by
  unfold World.frozen?; simp only [show w.heap[b]? = _ from h]; simp
theorem AB.frees {w : World} {b : Nat} {x : Bk} (h : AB w b x) : w.frozen? ⟨b, 0, none⟩ = false ∧ w.frozen? ⟨b, 1, none⟩ = false ∧ w.frozen? ⟨b, 2, none⟩ = false := ⟨h.free 0, h.free 1, h.free 2⟩
theorem wpList_store_bk {ops : Array Oper} {rest : List Oper} {o : Oper} {a : Act} {w : World} {Q : Exit → Act → World → Prop} (hgd : o.guard = none) (x y : Operand) (ho : o.op = .store 37 x y)
    (D : Nat) (m m0 : Bk) (hx : a.eval x = .pointer (some ⟨D, 0, none⟩)) (hy : a.eval y = m.val) (hD : AB w D m0)
    (h : ∀ wF, AB wF D m → Below D w wF → wpList Tryz.prog ops Q rest (a.put o.dst undef) wF) : wpList Tryz.prog ops Q (o :: rest) a w :=
  wpList_store_row hgd 37 x y ho D m.cells hx hy 37 m0.cells hD (by kernel_rfl) rfl (by simp [Bk.cells, Value.oneCell'])
    (h _ (setRow_heap w D m0.cells m.cells _ _ hD) (below_setRow (Below.refl D w) (Nat.le_refl D) m.cells))

/-- What Parse answers. -/
noncomputable def parseB (s : ByteArray) : Bk := (parse s).getD Bk.zero
noncomputable def parseI (s : ByteArray) : Bool := (parse s).isSome
theorem parseB_none {s : ByteArray} (h : parse s = none) : parseB s = Bk.zero ∧ parseI s = false := by unfold parseB parseI; rw [h]; exact ⟨rfl, rfl⟩
theorem parseB_some {s : ByteArray} {b : Bk} (h : parse s = some b) : parseB s = b ∧ parseI s = true := by unfold parseB parseI; rw [h]; exact ⟨rfl, rfl⟩
theorem rec_split (c : Bk) (m : Int) : (recB c m).extract 0 1 = strOfNums [m] ∧ (recB c m).extract 1 (recB c m).size = sealB c := by
  have h1 : (strOfNums [m]).size = 1 := by rw [strOfNums_size]; rfl
  unfold recB
  exact ⟨by have := app_left (strOfNums [m]) (sealB c); rwa [h1] at this, by have := app_right (strOfNums [m]) (sealB c); rwa [h1] at this⟩
theorem pfx_rec (c : Bk) : pfx (recB c 1) = true := decide_eq_true (by rw [(rec_split c 1).1]; rfl)
theorem parse_nopfx {s : ByteArray} (h : pfx s = false) : parse s = none := parse_none fun c _ he => by rw [← he, pfx_rec] at h; cases h
/-- What stands behind the mark is not sealed, or of another size. -/
theorem parse_notopen {s : ByteArray} (h : (openOf (s.extract 1 s.size)).2 = false ∨ (openOf (s.extract 1 s.size)).1.size ≠ 27) : parse s = none := parse_none fun c hc he => by
  have h1 : openOf (s.extract 1 s.size) = (bodyB c, true) := by rw [← he, (rec_split c 1).2]; exact sealB_open c
  rw [h1] at h
  rcases h with h | h
  · cases h
  · exact h (bodyB_size (refE_zero.1 hc).2)
/-- What is read out of a body. -/
def readBk (B : ByteArray) (v : Int) (n : Nat) : Bk := ⟨lev (B.extract 0 1) 1, v, B.extract 11 (11 + n)⟩
theorem parse_read {s B : ByteArray} (h : openOf (s.extract 1 s.size) = (B, true)) {v : Int} {n : Nat} (hv : (bt (B.extract 1 9) 7 ≤ 127 → v = lev (B.extract 1 9) 8)) (hn : (n : Int) = min (lev (B.extract 9 11) 2) 16) :
    (refE (readBk B v n) 1 = 0 ∧ recB (readBk B v n) 1 = s → parse s = some (readBk B v n)) ∧ (¬ (refE (readBk B v n) 1 = 0 ∧ recB (readBk B v n) 1 = s) → parse s = none) := by
  refine ⟨fun ⟨h1, h2⟩ => parse_of h1 h2, fun hno => parse_none fun c hc he => hno ?_⟩
  have h1 : openOf (s.extract 1 s.size) = (bodyB c, true) := by rw [← he, (rec_split c 1).2]; exact sealB_open c
  rw [h] at h1
  have hB : B = bodyB c := (Prod.mk.inj h1).1
  subst hB
  have e1 := body_id c hc
  have e2 := body_ver c hc
  have e3 := body_len c hc
  have e4 := (refE_zero.1 hc).2
  have e5 : n = c.data.size := by rw [e3] at hn; omega
  have : readBk (bodyB c) v n = c := by
    unfold readBk
    rw [e1, hv e2.2, e2.1, e5, body_data]
  rw [this]
  exact ⟨hc, he⟩
theorem lev2_in (s : ByteArray) : 0 ≤ lev s 2 ∧ lev s 2 ≤ 65535 := by
  have h0 := bt_in s 0
  have h1 := bt_in s 1
  simp only [lev]
  omega
theorem lev1_in (s : ByteArray) : 0 ≤ lev s 1 ∧ lev s 1 ≤ 255 := by
  have h0 := bt_in s 0
  simp only [lev]
  omega

set_option maxRecDepth 100000 in
set_option maxHeartbeats 4000000 in
theorem parse_any (s : ByteArray) (w : World) (hT : Tab w) (hs : s.size ≤ 100000) :
    Calls Tryz.prog 41 #[.string s] w fun e w' => e = .returned (.tuple #[(parseB s).val, .bool (parseI s)]) ∧ Below w.heap.size w w' := by
  obtain ⟨pb, hpb⟩ : ∃ b, parseB s = b := ⟨_, rfl⟩
  obtain ⟨pi, hpi⟩ : ∃ b, parseI s = b := ⟨_, rfl⟩
  rw [hpb, hpi]
  have PB := Lib.hid hpb
  have PI := Lib.hid hpi
  have HC := Lib.hid (fun w => cutPrefix_any s w)
  have hb0 : Below w.heap.size w (w.alloc (.cells #[.int .i64 0, .int .i64 0, .string ⟨#[]⟩] 37)) := (Below.refl _ _).alloc (Nat.le_refl _) _
  have T0 := Lib.hid (hT.below hb0)
  have B0 := Lib.hid hb0
  have hR : AB (w.alloc (.cells #[.int .i64 0, .int .i64 0, .string ⟨#[]⟩] 37)) w.heap.size Bk.zero := AB.fresh w Bk.zero
  have R0 := Lib.hid hR
  clear hb0 hT hpb hpi hR
  go_enter Tryz.func41, Tryz.ntmps41
  go_wp2_with fail
  generalize w.alloc (.cells #[.int .i64 0, .int .i64 0, .string ⟨#[]⟩] 37) = w0 at T0 B0 R0 ⊢
  go_at_call 70
  refine (HC.out w0).mono ?_
  rintro e w' ⟨rfl, rfl⟩
  have HO := Lib.hid (fun t w (T : Tab w) (h : t.size ≤ 100000) => open_any t w T (by omega))
  cases hp : pfx s
  · rw [if_neg (by simp)]
    obtain ⟨hz1, hz2⟩ := parseB_none (parse_nopfx hp)
    obtain rfl : pb = Bk.zero := PB.out.symm.trans hz1
    obtain rfl : pi = false := PI.out.symm.trans hz2
    clear hp hz1 hz2
    go_wp2_with fail
    go_at_call 71
    refine (HO.out _ _ T0.out hs).mono ?_
    rintro e w1 ⟨rfl, k2⟩
    have R1 := Lib.hid (R0.out.below k2)
    have B1 := Lib.hid (B0.out.trans (k2.mono B0.out.size))
    generalize (openOf s).1 = q1
    generalize (openOf s).2 = q2
    clear k2
    go_wp2_with ((with_reducible show wpList _ _ _ (Oper.mk none (Op.store _ (.tmp 2) _) _ _ _ _ :: _) _ _); refine wpList_store_bk rfl (.tmp 2) (.tmp 33) rfl w.heap.size Bk.zero Bk.zero rfl rfl R1.out ?_; intro wF k1 k2; obtain ⟨d0, d1, d2⟩ := k1.all; have BF := Lib.hid (B1.out.trans k2); clear k1 k2)
    exact bodyPost_ret (v := .tuple #[Bk.zero.val, .bool false]) (by simp [results, Tryz.results41, go_sem, d0, d1, d2]) rfl ⟨rfl, BF.out⟩
  · rw [if_pos rfl]
    have h1s := pfx_size hp
    obtain ⟨t, ht⟩ : ∃ t, s.extract 1 s.size = t := ⟨_, rfl⟩
    have hts : t.size ≤ 100000 := by rw [← ht, ByteArray.size_extract]; omega
    have hno := @parse_notopen s
    have hrd := @parse_read s
    rw [ht] at hno hrd ⊢
    obtain ⟨B, q2, hq⟩ : ∃ B q2, openOf t = (B, q2) := ⟨_, _, rfl⟩
    have HO' := Lib.hid (fun w (T : Tab w) => HO.out t w T hts)
    rw [hq] at hno HO'
    simp only at hno HO'
    go_wp2_with fail
    go_at_call 71
    refine (HO'.out _ T0.out).mono ?_
    rintro e w1 ⟨rfl, k2⟩
    have R1 := Lib.hid (R0.out.below k2)
    have T1 := Lib.hid (T0.out.below k2)
    have B1 := Lib.hid (B0.out.trans (k2.mono B0.out.size))
    clear k2 HO HO'
    by_cases hbad : q2 = false ∨ B.size ≠ 27
    · obtain ⟨hz1, hz2⟩ := parseB_none (hno hbad)
      obtain rfl : pb = Bk.zero := PB.out.symm.trans hz1
      obtain rfl : pi = false := PI.out.symm.trans hz2
      clear hz1 hz2 hno hrd hq
      cases q2
      · clear hbad
        go_wp2_with ((with_reducible show wpList _ _ _ (Oper.mk none (Op.store _ (.tmp 2) _) _ _ _ _ :: _) _ _); refine wpList_store_bk rfl (.tmp 2) (.tmp 33) rfl w.heap.size Bk.zero Bk.zero rfl rfl R1.out ?_; intro wF k1 k2; obtain ⟨d0, d1, d2⟩ := k1.all; have BF := Lib.hid (B1.out.trans k2); clear k1 k2)
        exact bodyPost_ret (v := .tuple #[Bk.zero.val, .bool false]) (by simp [results, Tryz.results41, go_sem, d0, d1, d2]) rfl ⟨rfl, BF.out⟩
      · have hI : ((B.size : Int) == 27) = false := by
          rcases hbad with h | h
          · cases h
          · simp; omega
        clear hbad
        go_wp2_with ((with_reducible show wpList _ _ _ (Oper.mk none (Op.store _ (.tmp 2) _) _ _ _ _ :: _) _ _); refine wpList_store_bk rfl (.tmp 2) (.tmp 33) rfl w.heap.size Bk.zero Bk.zero rfl rfl R1.out ?_; intro wF k1 k2; obtain ⟨d0, d1, d2⟩ := k1.all; have BF := Lib.hid (B1.out.trans k2); clear k1 k2)
        exact bodyPost_ret (v := .tuple #[Bk.zero.val, .bool false]) (by simp [results, Tryz.results41, go_sem, d0, d1, d2]) rfl ⟨rfl, BF.out⟩
    · obtain ⟨rfl, hB⟩ : q2 = true ∧ B.size = 27 := ⟨by cases q2; (exact absurd (.inl rfl) hbad); rfl, Classical.not_not.1 fun h => hbad (.inr h)⟩
      have hBI : (B.size : Int) = 27 := by omega
      clear hbad hno
      have y2 : (B.extract 9 11).size = 2 := by rw [ByteArray.size_extract]; omega
      have y1 : (B.extract 0 1).size = 1 := by rw [ByteArray.size_extract]; omega
      have y8 : (B.extract 1 9).size = 8 := by rw [ByteArray.size_extract]; omega
      obtain ⟨v, N8⟩ : ∃ v, (bt (B.extract 1 9) 7 ≤ 127 → v = lev (B.extract 1 9) 8) ∧ ∀ w, Calls Tryz.prog 72 #[.string (B.extract 1 9)] w fun e w' => e = .returned (.int .i64 v) ∧ w = w' := by
        by_cases h7 : bt (B.extract 1 9) 7 ≤ 127
        · exact ⟨_, fun _ => rfl, fun w => toNum8 (B.extract 1 9) w y8 h7⟩
        · obtain ⟨V, -, hV⟩ := toNumBad (B.extract 1 9) y8 (by omega)
          exact ⟨V, fun h => absurd h h7, hV⟩
      obtain ⟨hv8, N8⟩ := N8
      obtain ⟨l0, l1⟩ := lev2_in (B.extract 9 11)
      have N2 := Lib.hid (fun w => toNum2 (B.extract 9 11) w y2)
      have N1 := Lib.hid (fun w => toNum1 (B.extract 0 1) w y1)
      have NV := Lib.hid N8
      obtain ⟨L, hL⟩ : ∃ L, lev (B.extract 9 11) 2 = L := ⟨_, rfl⟩
      rw [hL] at N2 l0 l1
      obtain ⟨n, hn, hn16⟩ : ∃ n : Nat, (n : Int) = min L 16 ∧ n ≤ 16 := ⟨(min L 16).toNat, by omega, by omega⟩
      obtain ⟨hy, hno⟩ := hrd hq hv8 (n := n) (by rw [hL]; exact hn)
      obtain ⟨q, hqd⟩ : ∃ q, readBk B v n = q := ⟨_, rfl⟩
      rw [hqd] at hy hno
      have hq1 : lev (B.extract 0 1) 1 = q.id := by rw [← hqd]; rfl
      have hq2 : v = q.ver := by rw [← hqd]; rfl
      have hq3 : B.extract 11 (11 + n) = q.data := by rw [← hqd]; rfl
      have hqs : q.data.size ≤ 16 := by rw [← hq3, ByteArray.size_extract]; omega
      rw [hq1] at N1
      subst hq2
      have Hy := Lib.hid hy
      have Hn := Lib.hid hno
      have hmin : (if L ≤ 16 then L else 16) = (n : Int) := by rw [hn]; omega
      clear hy hno hqd hq1 hv8 N8 hrd hq hL
      have T1' := T1
      go_wp2_with fail
      go_at_call 72
      refine (N2.out _).mono ?_
      rintro e w' ⟨rfl, rfl⟩
      obtain ⟨E, hE⟩ : ∃ E : Nat, 11 + n = E := ⟨_, rfl⟩
      have g1 : IntKind.i64.wrap (11 + min L 16) = (E : Int) := by rw [← hn, IntWalk.i64_in _ (by omega)]; omega
      have g2 : (11 : Int) ≤ (E : Int) := by omega
      have g3 : (E : Int) ≤ 27 := by omega
      have g4 : (0 : Int) ≤ (E : Int) := by omega
      rw [hE] at hq3
      clear hE hmin hn
      go_wp2_with fail
      go_region_held3 (fun w' => True)
        (first | trivial | fail)
        (first
          | (go_at_call 72; with_reducible refine (N1.out _).mono ?_; rintro e w' ⟨rfl, rfl⟩)
          | (go_at_call 72; with_reducible refine (NV.out _).mono ?_; rintro e w' ⟨rfl, rfl⟩)
          | fail)
      all_goals
        go_wp2_with fail
        have hb2 : Below w1.heap.size w1 (w1.alloc (.cells #[.int .i64 q.id, .int .i64 q.ver, .string q.data] 37)).drew := ((Below.refl _ _).alloc (Nat.le_refl _) _).drew
        have Q2 := Lib.hid (show AB (w1.alloc (.cells #[.int .i64 q.id, .int .i64 q.ver, .string q.data] 37)).drew w1.heap.size q from AB.fresh w1 q)
        have R2 := Lib.hid (R1.out.below hb2)
        have T2 := Lib.hid (T1.out.below hb2)
        have B2 := Lib.hid (B1.out.trans (hb2.mono B1.out.size))
        have HZ := Lib.hid R1.out.lt
        clear hb2
        generalize (w1.alloc (.cells #[.int .i64 q.id, .int .i64 q.ver, .string q.data] 37)).drew = w2 at Q2 R2 T2 B2 ⊢
        go_at_call 73
        refine (record_any q 1 w2 T2.out (by omega)).mono ?_
        rintro e w3 ⟨rfl, k2⟩
        have Q3 := Lib.hid (Q2.out.below k2)
        have R3 := Lib.hid (R2.out.below k2)
        have B3 := Lib.hid (B2.out.trans (k2.mono B2.out.size))
        clear k2
        by_cases hr : refE q 1 = 0
        · rw [recV_yes hr, hr]
          obtain ⟨rq, hrq⟩ : ∃ x, recB q 1 = x := ⟨_, rfl⟩
          rw [hrq]
          have HQ := Lib.hid hrq
          clear hrq
          by_cases hre : rq = s
          · obtain ⟨hz1, hz2⟩ := parseB_some (Hy.out ⟨hr, HQ.out.trans hre⟩)
            obtain rfl : pb = q := PB.out.symm.trans hz1
            obtain rfl : pi = true := PI.out.symm.trans hz2
            have he := str_eq hre
            clear hz1 hz2
            obtain ⟨e0, e1, e2⟩ := Q3.out.all
            clear hre
            go_wp2_with ((with_reducible show wpList _ _ _ (Oper.mk none (Op.store _ (.tmp 2) _) _ _ _ _ :: _) _ _); refine wpList_store_bk rfl (.tmp 2) (.tmp 62) rfl w.heap.size pb Bk.zero rfl rfl R3.out ?_; intro wF k1 k2; obtain ⟨d0, d1, d2⟩ := k1.all; have BF := Lib.hid (B3.out.trans k2); clear k1 k2)
            exact bodyPost_ret (v := .tuple #[pb.val, .bool true]) (by simp [results, Tryz.results41, go_sem, d0, d1, d2]) rfl ⟨rfl, BF.out⟩
          · obtain ⟨hz1, hz2⟩ := parseB_none (Hn.out fun h => hre (HQ.out.symm.trans h.2))
            obtain rfl : pb = Bk.zero := PB.out.symm.trans hz1
            obtain rfl : pi = false := PI.out.symm.trans hz2
            have he := str_ne hre
            clear hz1 hz2 hre
            go_wp2_with ((with_reducible show wpList _ _ _ (Oper.mk none (Op.store _ (.tmp 2) _) _ _ _ _ :: _) _ _); refine wpList_store_bk rfl (.tmp 2) (.tmp 61) rfl w.heap.size Bk.zero Bk.zero rfl rfl R3.out ?_; intro wF k1 k2; obtain ⟨d0, d1, d2⟩ := k1.all; have BF := Lib.hid (B3.out.trans k2); clear k1 k2)
            exact bodyPost_ret (v := .tuple #[Bk.zero.val, .bool false]) (by simp [results, Tryz.results41, go_sem, d0, d1, d2]) rfl ⟨rfl, BF.out⟩
        · obtain ⟨hz1, hz2⟩ := parseB_none (Hn.out fun h => hr h.1)
          obtain rfl : pb = Bk.zero := PB.out.symm.trans hz1
          obtain rfl : pi = false := PI.out.symm.trans hz2
          have hr0 : (refE q 1 == 0) = false := by simpa using hr
          clear hz1 hz2
          generalize refE q 1 = r at hr hr0
          generalize recV q 1 = rq
          go_wp2_with ((with_reducible show wpList _ _ _ (Oper.mk none (Op.store _ (.tmp 2) _) _ _ _ _ :: _) _ _); refine wpList_store_bk rfl (.tmp 2) (.tmp 61) rfl w.heap.size Bk.zero Bk.zero rfl rfl R3.out ?_; intro wF k1 k2; obtain ⟨d0, d1, d2⟩ := k1.all; have BF := Lib.hid (B3.out.trans k2); clear k1 k2)
          exact bodyPost_ret (v := .tuple #[Bk.zero.val, .bool false]) (by simp [results, Tryz.results41, go_sem, d0, d1, d2]) rfl ⟨rfl, BF.out⟩
end Go.Proofs.YtacdbfaoeioflaaGreatDoor
