/-
  The document's own Parse (weirkeepref09), by a contract.
-/
import Derived.Test.YtmmpknfkncgjpaaGreatDoorM27
namespace Go.Proofs.YtmmpknfkncgjpaaGreatDoor
open Go.RowKit Go.PlainAid Go.Lib

theorem rrec_any (b : Bk) (m : Int) (w : World) :
    Calls Tryz.prog 106 #[b.val, .int .i64 m] w fun e w' => e = .returned (.tuple #[.string (recV b m), .int .i64 (refE b m)]) ∧ Below w.heap.size w w' := by
  by_cases h : refE b m = 0
  · rw [recV_yes h, h]; exact rrec_ok b m w h
  · rw [recV_no h]
    unfold refE at h ⊢
    by_cases ha : argOk b m
    · rw [if_pos ha] at h ⊢
      by_cases hs : 16 < b.data.size
      · rw [if_pos hs]; exact rrec_long b m w ha hs
      · rw [if_neg hs] at h; exact absurd rfl h
    · rw [if_neg ha]; exact rrec_arg b m w ha

/-- The reader's numbers. -/
theorem sub_bt (s : ByteArray) (i : Nat) (h : 1 + i < s.size) : bt (s.extract 1 s.size) i = bt s (1 + i) := bt_extract s 1 i h
theorem bt_left (a b : ByteArray) (i : Nat) (h : i < a.size) : bt (a ++ b) i = bt a i := by
  have h1 : i < (a ++ b).size := by rw [ByteArray.size_append]; omega
  unfold bt
  rw [dif_pos h1, dif_pos h, ByteArray.getElem_append_left]
/-- What is read out of a sector's bytes, field by field. -/
theorem rparse_read {s : ByteArray} {v n : Int} {k : Nat} (hv : bt (s.extract 1 s.size) 8 ≤ 127 → v = hvf (s.extract 1 s.size) 1 8 0 ∧ n = hvf (s.extract 1 s.size) 9 2 0) (hk : 0 ≤ n → (k : Int) = n) :
    (∀ q : Bk, q = ⟨hvf (s.extract 1 s.size) 0 1 0, v, s.extract 12 (12 + k)⟩ → n ≤ 16 → ((refE q 1 = 0 ∧ recB q 1 = s → parse s = some q) ∧ (¬ (refE q 1 = 0 ∧ recB q 1 = s) → parse s = none))) ∧ (16 < n → parse s = none) := by
  have key : ∀ c, refE c 1 = 0 → recB c 1 = s → (c.id = hvf (s.extract 1 s.size) 0 1 0 ∧ c.ver = v ∧ n = c.data.size ∧ c.data = s.extract 12 (12 + k)) := by
    intro c hc he
    have hT : s.extract 1 s.size = sealB c := by rw [← he]; exact (rec_split c 1).2
    have hsz := sealB_size (refE_zero.1 hc).2
    have hb := bodyB_size (refE_zero.1 hc).2
    have hin : ∀ i, i < 27 → bt (sealB c) i = bt (bodyB c) i := fun i hi => by
      exact bt_left (bodyB c) (four (sumOf (bodyB c))) i (by omega)
    have e1 := body_id c hc
    have e2 := body_ver c hc
    have e3 := body_len c hc
    have ex : ∀ (a e i : Nat), a + i < e → e ≤ 27 → bt ((bodyB c).extract a e) i = bt (bodyB c) (a + i) := fun a e i h1 h2 => by
      have h3 : i < ((bodyB c).extract a e).size := by rw [ByteArray.size_extract]; omega
      have h4 : a + i < (bodyB c).size := by omega
      unfold bt
      rw [dif_pos h3, dif_pos h4, ByteArray.getElem_extract]
    rw [hT] at hv ⊢
    have h8 : bt (sealB c) 8 ≤ 127 := by
      rw [hin 8 (by omega)]
      have := e2.2
      rwa [ex 1 9 7 (by omega) (by omega)] at this
    obtain ⟨hv3, hn3⟩ := hv h8
    have hl : ∀ a k, a + k ≤ 27 → hvf (sealB c) a k 0 = lev ((sealB c).extract a (sealB c).size) k := fun a k h => hvf_lev _ _ _ (by omega)
    have hlev : ∀ a k, a + k ≤ 27 → lev ((sealB c).extract a (sealB c).size) k = lev ((bodyB c).extract a (a + k)) k := fun a k h => by
      have : ∀ j, j ≤ k → lev ((sealB c).extract a (sealB c).size) j = lev ((bodyB c).extract a (a + k)) j := by
        intro j
        induction j with
        | zero => intro _; rfl
        | succ j ih =>
          intro hj
          simp only [lev]
          rw [ih (by omega), bt_extract _ _ _ (by omega), hin _ (by omega), ex a (a + k) j (by omega) (by omega)]
      exact this k (Nat.le_refl _)
    have f1 : hvf (sealB c) 0 1 0 = c.id := by rw [hl 0 1 (by omega), hlev 0 1 (by omega)]; exact e1
    have f2 : hvf (sealB c) 1 8 0 = c.ver := by rw [hl 1 8 (by omega), hlev 1 8 (by omega)]; exact e2.1
    have f3 : hvf (sealB c) 9 2 0 = c.data.size := by rw [hl 9 2 (by omega), hlev 9 2 (by omega)]; exact e3
    rw [f3] at hn3
    rw [f2] at hv3
    have hkn := hk (by omega)
    have hk' : k = c.data.size := by omega
    refine ⟨f1.symm, hv3.symm, hn3, ?_⟩
    rw [hk', ← he]
    have h5 : (strOfNums [(1 : Int)]).size = 1 := by rw [strOfNums_size]; rfl
    have hd := (refE_zero.1 hc).2
    unfold recB
    rw [ByteArray.extract_append, h5]
    rw [show (strOfNums [(1 : Int)]).extract 12 (12 + c.data.size) = ByteArray.empty by rw [ByteArray.extract_eq_empty_iff, h5]; omega]
    rw [ByteArray.empty_append]
    unfold sealB
    rw [ByteArray.extract_append, hb]
    rw [show (four (sumOf (bodyB c))).extract (12 - 1 - 27) (12 + c.data.size - 1 - 27) = ByteArray.empty by rw [ByteArray.extract_eq_empty_iff]; omega]
    rw [ByteArray.append_empty, show 12 - 1 = 11 from rfl, show 12 + c.data.size - 1 = 11 + c.data.size by omega]
    exact (body_data c).symm
  refine ⟨fun q hq hn => ⟨fun ⟨h1, h2⟩ => parse_of h1 h2, fun hno => parse_none fun c hc he => hno ?_⟩, fun hn => parse_none fun c hc he => ?_⟩
  · obtain ⟨k1, k2, k3, k4⟩ := key c hc he
    have : q = c := by rw [hq, ← k1, ← k2, ← k4]
    rw [this]; exact ⟨hc, he⟩
  · obtain ⟨k1, k2, k3, k4⟩ := key c hc he
    have := (refE_zero.1 hc).2
    omega

theorem rparse_size {s : ByteArray} (h : s.size ≠ 32) : parse s = none := parse_none fun c hc he => h (by rw [← he]; exact recB_size (refE_zero.1 hc).2 1)
theorem hvf8_in (s : ByteArray) (a : Nat) (ha : a + 8 ≤ s.size) (h : bt s (a + 7) ≤ 127) : hvf s a 8 0 ≤ 9223372036854775807 := by
  rw [hvf_lev s a 8 ha]
  have e : ∀ i, i < 8 → bt (s.extract a s.size) i = bt s (a + i) := fun i hi => bt_extract s a i (by omega)
  simp only [lev]
  rw [e 0 (by omega), e 1 (by omega), e 2 (by omega), e 3 (by omega), e 4 (by omega), e 5 (by omega), e 6 (by omega), e 7 (by omega)]
  have h0 := bt_in s (a + 0)
  have h1 := bt_in s (a + 1)
  have h2 := bt_in s (a + 2)
  have h3 := bt_in s (a + 3)
  have h4 := bt_in s (a + 4)
  have h5 := bt_in s (a + 5)
  have h6 := bt_in s (a + 6)
  have h7 := bt_in s (a + 7)
  omega
theorem hvfs_in (s : ByteArray) (a : Nat) : hvf s a 1 0 ≤ 255 ∧ hvf s a 2 0 ≤ 65535 := by
  have h0 := bt_in s (a + 0)
  have h1 := bt_in s (a + 1)
  refine ⟨?_, ?_⟩
  · rw [hvf_step s a 1 0 (by omega), hvf_end s a 1]; omega
  · rw [hvf_step s a 2 0 (by omega), hvf_step s a 2 1 (by omega), hvf_end s a 2]; omega
/-- The version's eight bytes: a number, or none; then the reader stands where it was. -/
theorem num8_any (T : ByteArray) (hT : T.size = 31) : ∃ (v : Int) (a2 : Nat), a2 ≤ 9 ∧ (bt T 8 ≤ 127 → v = hvf T 1 8 0 ∧ a2 = 9) ∧ ∀ (b : Nat) (w : World), Rdr w b T 1 →
    Calls Tryz.prog 53 #[.pointer (some ⟨b, 0, none⟩), .int .i64 8] w fun e w' => (∃ A n at_, e = .returned (.tuple #[.int .i64 v, .agg #[.slice A n n, .int .i64 at_]])) ∧ Rdr w' b T a2 ∧ Fr b none w w' := by
  by_cases h : bt T 8 ≤ 127
  · refine ⟨hvf T 1 8 0, 9, by omega, fun _ => ⟨rfl, rfl⟩, fun b w hR => (rrnum_ok8 b 1 T w hR (by omega) (by omega) h (hvf8_in T 1 (by omega) h)).mono ?_⟩
    rintro e w' ⟨h1, h2, h3⟩
    exact ⟨⟨none, 0, 0, h1⟩, h2, h3⟩
  · refine ⟨0, 1, by omega, fun h' => absurd h' h, fun b w hR => (rrnum_long b 1 T w hR (by omega) (by omega) (by show 127 < bt T 8; omega)).mono ?_⟩
    rintro e w' ⟨A, at_, h1, -, h3⟩
    exact ⟨⟨A, 1, at_, h1⟩, hR.below h3, (Fr.refl b none w).then_ h3⟩
set_option maxRecDepth 100000 in
set_option maxHeartbeats 4000000 in
theorem rparse_any (s : ByteArray) (w : World) :
    Calls Tryz.prog 97 #[.string s] w fun e w' => e = .returned (.tuple #[(parseB s).val, .bool (parseI s)]) ∧ Below w.heap.size w w' := by
  obtain ⟨pb, hpb⟩ : ∃ b, parseB s = b := ⟨_, rfl⟩
  obtain ⟨pi, hpi⟩ : ∃ b, parseI s = b := ⟨_, rfl⟩
  rw [hpb, hpi]
  have PB := Lib.hid hpb
  have PI := Lib.hid hpi
  have hb0 : Below w.heap.size w (w.alloc (.cells #[.int .i64 0, .int .i64 0, .string ⟨#[]⟩] 34)) := (Below.refl _ _).alloc (Nat.le_refl _) _
  have B0 := Lib.hid hb0
  have R0 := Lib.hid (show AB (w.alloc (.cells #[.int .i64 0, .int .i64 0, .string ⟨#[]⟩] 34)) w.heap.size Bk.zero from AB.fresh w Bk.zero)
  clear hpb hpi
  by_cases h32 : s.size = 32
  · obtain ⟨T, hT⟩ : ∃ T, s.extract 1 s.size = T := ⟨_, rfl⟩
    have hTs : T.size = 31 := by rw [← hT, ByteArray.size_extract]; omega
    have hI : (s.size : Int) = 32 := by omega
    obtain ⟨v, a2, ha2, hva, N8⟩ := num8_any T hTs
    obtain ⟨n, hn⟩ : ∃ n : Nat, (n : Int) = hvf T a2 2 0 := ⟨(hvf T a2 2 0).toNat, by have := hvf_nonneg T a2 2 2 0 rfl; omega⟩
    have hn0 : (n : Int) ≤ 65535 := by rw [hn]; exact (hvfs_in T a2).2
    have hrd := @rparse_read s v n n (by rw [hT]; intro h; obtain ⟨h1, h2⟩ := hva h; exact ⟨h1, by rw [hn, h2]⟩) (fun _ => rfl)
    rw [hT] at hrd
    obtain ⟨hrd1, hrd2⟩ := hrd
    rw [h32] at hT
    have k1c := (hvfs_in T 0).1
    have k2c := (hvfs_in T a2).2
    have hcs : ∀ w, Calls Tryz.prog 53 #[.pointer (some ⟨w, 0, none⟩), .int .i64 1] = Calls Tryz.prog 53 #[.pointer (some ⟨w, 0, none⟩), .int .i64 ((1 : Nat) : Int)] := fun _ => rfl
    have N1 := Lib.hid (fun b w (h : Rdr w b T 0) => rrnum_okv b 0 T 1 w h (by omega) (by omega) (.inl rfl) (by omega) (by omega))
    have N2 := Lib.hid (fun b w (h : Rdr w b T a2) => rrnum_okv b a2 T 2 w h (by omega) (by omega) (.inr (.inl rfl)) (by omega) (by omega))
    have NV := Lib.hid N8
    obtain ⟨q0, hq0⟩ : ∃ q, hvf T 0 1 0 = q := ⟨_, rfl⟩
    rw [← hn] at N2
    rw [hq0] at N1 hrd1
    clear hva N8 hn hcs k1c k2c hq0
    have hb1 : Below (w.alloc (.cells #[.int .i64 0, .int .i64 0, .string ⟨#[]⟩] 34)).heap.size (w.alloc (.cells #[.int .i64 0, .int .i64 0, .string ⟨#[]⟩] 34)) ((w.alloc (.cells #[.int .i64 0, .int .i64 0, .string ⟨#[]⟩] 34)).alloc (.cells #[.string T, .int .i64 0] 113)) := (Below.refl _ _).alloc (Nat.le_refl _) _
    have hD : Rdr ((w.alloc (.cells #[.int .i64 0, .int .i64 0, .string ⟨#[]⟩] 34)).alloc (.cells #[.string T, .int .i64 0] 113)) (w.heap.size + 1) T 0 := ⟨by simp, by simp, by simp⟩
    have D1 := Lib.hid hD
    have R1 := Lib.hid (R0.out.below hb1)
    have B1 := Lib.hid (B0.out.trans (hb1.mono B0.out.size))
    have Z1 := Lib.hid (show w.heap.size + 2 ≤ ((w.alloc (.cells #[.int .i64 0, .int .i64 0, .string ⟨#[]⟩] 34)).alloc (.cells #[.string T, .int .i64 0] 113)).heap.size by simp)
    clear hb1 hD hb0 B0 R0
    go_enter Tryz.func97, Tryz.ntmps97
    go_wp2_with fail
    generalize (w.alloc (.cells #[.int .i64 0, .int .i64 0, .string ⟨#[]⟩] 34)).alloc (.cells #[.string T, .int .i64 0] 113) = w1 at D1 R1 B1 Z1 ⊢
    go_at_call 53
    refine (N1.out (w.heap.size + 1) w1 D1.out).mono ?_
    rintro e w2 ⟨rfl, k1, k2⟩
    have hk : Below w2.heap.size w2 (w2.alloc (.cells #[.slice none 0 0, .int .i64 0] 102)) := (Below.refl _ _).alloc (Nat.le_refl _) _
    have D2 := Lib.hid (Rdr.below hk k1)
    have R2 := Lib.hid ((k2.ab R1.out (by omega) (fun g hg => by cases hg)).below hk)
    have B2 := Lib.hid ((B1.out.trans ((k2.below (by have := Z1.out; omega) (fun g hg => by cases hg)).mono (by omega))).trans (hk.mono (by have := Z1.out; have := k2.size; omega)))
    have Z2 := Lib.hid (Nat.le_trans Z1.out (Nat.le_trans k2.size hk.size))
    clear k1 k2 hk D1 R1 B1
    go_wp2_with fail
    generalize w2.alloc (.cells #[.slice none 0 0, .int .i64 0] 102) = w3 at D2 R2 B2 Z2 ⊢
    go_at_call 53
    refine (NV.out (w.heap.size + 1) w3 D2.out).mono ?_
    rintro e w4 ⟨⟨A, m, at_, rfl⟩, k1, k2⟩
    have hk : Below w4.heap.size w4 (w4.alloc (.cells #[.slice A m m, .int .i64 at_] 102)) := (Below.refl _ _).alloc (Nat.le_refl _) _
    have D3 := Lib.hid (Rdr.below hk k1)
    have R3 := Lib.hid ((k2.ab R2.out (by omega) (fun g hg => by cases hg)).below hk)
    have B3 := Lib.hid ((B2.out.trans ((k2.below (by have := Z2.out; omega) (fun g hg => by cases hg)).mono (by omega))).trans (hk.mono (by have := Z2.out; have := k2.size; omega)))
    have Z3 := Lib.hid (Nat.le_trans Z2.out (Nat.le_trans k2.size hk.size))
    clear k1 k2 hk D2 R2 B2
    go_wp2_with fail
    generalize w4.alloc (.cells #[.slice A m m, .int .i64 at_] 102) = w5 at D3 R3 B3 Z3 ⊢
    go_at_call 53
    refine (N2.out (w.heap.size + 1) w5 D3.out).mono ?_
    rintro e w6 ⟨rfl, k1, k2⟩
    have hk : Below w6.heap.size w6 (w6.alloc (.cells #[.slice none 0 0, .int .i64 0] 102)) := (Below.refl _ _).alloc (Nat.le_refl _) _
    have R4 := Lib.hid ((k2.ab R3.out (by omega) (fun g hg => by cases hg)).below hk)
    have B4 := Lib.hid ((B3.out.trans ((k2.below (by have := Z3.out; omega) (fun g hg => by cases hg)).mono (by omega))).trans (hk.mono (by have := Z3.out; have := k2.size; omega)))
    clear k1 k2 hk D3 R3 B3
    by_cases hn16 : n ≤ 16
    · have hnI : ¬ (16 : Int) < (n : Int) := by omega
      obtain ⟨q, hqd⟩ : ∃ q : Bk, q = ⟨q0, v, s.extract 12 (12 + n)⟩ := ⟨_, rfl⟩
      obtain ⟨hy, hno⟩ := hrd1 q hqd (by omega)
      have Hy := Lib.hid hy
      have Hn := Lib.hid hno
      have hq3 : s.extract 12 (12 + n) = q.data := by rw [hqd]
      have hqs : q.data.size ≤ 16 := by rw [← hq3, ByteArray.size_extract]; omega
      have hq1 : q0 = q.id := by rw [hqd]
      have hq2 : v = q.ver := by rw [hqd]
      subst hq1 hq2
      obtain ⟨E, hE⟩ : ∃ E : Nat, 12 + n = E := ⟨_, rfl⟩
      have g1 : IntKind.i64.wrap (12 + (n : Int)) = (E : Int) := by rw [IntWalk.i64_in _ (by omega)]; omega
      have g2 : (12 : Int) ≤ (E : Int) := by omega
      have g3 : (E : Int) ≤ 32 := by omega
      have g4 : (0 : Int) ≤ (E : Int) := by omega
      rw [hE] at hq3
      clear hE hy hno hqd hrd1 hrd2 hn16 hn0
      go_wp2_with fail
      have hb2 : Below (w6.alloc (.cells #[.slice none 0 0, .int .i64 0] 102)).heap.size (w6.alloc (.cells #[.slice none 0 0, .int .i64 0] 102)) ((w6.alloc (.cells #[.slice none 0 0, .int .i64 0] 102)).alloc (.cells #[.int .i64 q.id, .int .i64 q.ver, .string q.data] 34)) := (Below.refl _ _).alloc (Nat.le_refl _) _
      have hQ : AB ((w6.alloc (.cells #[.slice none 0 0, .int .i64 0] 102)).alloc (.cells #[.int .i64 q.id, .int .i64 q.ver, .string q.data] 34)) (w6.heap.size + 1) q := by
        have := AB.fresh (w6.alloc (.cells #[.slice none 0 0, .int .i64 0] 102)) q
        rwa [show (w6.alloc (.cells #[.slice none 0 0, .int .i64 0] 102)).heap.size = w6.heap.size + 1 by simp] at this
      have Q5 := Lib.hid hQ
      have R5 := Lib.hid (R4.out.below hb2)
      have B5 := Lib.hid (B4.out.trans (hb2.mono B4.out.size))
      clear hb2 hQ R4 B4
      generalize (w6.alloc (.cells #[.slice none 0 0, .int .i64 0] 102)).alloc (.cells #[.int .i64 q.id, .int .i64 q.ver, .string q.data] 34) = w7 at Q5 R5 B5 ⊢
      go_at_call 106
      refine (rrec_any q 1 w7).mono ?_
      rintro e w8 ⟨rfl, k2⟩
      have Q6 := Lib.hid (Q5.out.below k2)
      have R6 := Lib.hid (R5.out.below k2)
      have B6 := Lib.hid (B5.out.trans (k2.mono B5.out.size))
      clear k2 Q5 R5 B5
      by_cases hr : refE q 1 = 0
      · rw [recV_yes hr, hr]
        obtain ⟨rq, hrq⟩ : ∃ x, recB q 1 = x := ⟨_, rfl⟩
        rw [hrq]
        have HQ := Lib.hid hrq
        clear hrq
        by_cases hre : rq = s
        · obtain ⟨hz1, hz2⟩ := parseB_some (Hy.out ⟨hr, HQ.out.trans hre⟩)
          obtain rfl : pb = q := PB.out.symm.trans hz1
          obtain rfl : pi = true := PI.out.symm.trans hz2
          have he := str_eq hre
          clear hz1 hz2
          obtain ⟨e0, e1, e2⟩ := Q6.out.all
          clear hre
          go_wp2_with ((with_reducible show wpList _ _ _ (Oper.mk none (Op.store _ (.tmp 2) _) _ _ _ _ :: _) _ _); refine wpList_store_bk rfl (.tmp 2) (.tmp 60) rfl w.heap.size pb Bk.zero rfl rfl R6.out ?_; intro wF k1 k2; obtain ⟨d0, d1, d2⟩ := k1.all; have BF := Lib.hid (B6.out.trans k2); clear k1 k2)
          exact bodyPost_ret (v := .tuple #[pb.val, .bool true]) (by simp [results, Tryz.results97, go_sem, d0, d1, d2]) rfl ⟨rfl, BF.out⟩
        · obtain ⟨hz1, hz2⟩ := parseB_none (Hn.out fun h => hre (HQ.out.symm.trans h.2))
          obtain rfl : pb = Bk.zero := PB.out.symm.trans hz1
          obtain rfl : pi = false := PI.out.symm.trans hz2
          have he := str_ne hre
          clear hz1 hz2 hre
          go_wp2_with ((with_reducible show wpList _ _ _ (Oper.mk none (Op.store _ (.tmp 2) _) _ _ _ _ :: _) _ _); refine wpList_store_bk rfl (.tmp 2) (.tmp 59) rfl w.heap.size Bk.zero Bk.zero rfl rfl R6.out ?_; intro wF k1 k2; obtain ⟨d0, d1, d2⟩ := k1.all; have BF := Lib.hid (B6.out.trans k2); clear k1 k2)
          exact bodyPost_ret (v := .tuple #[Bk.zero.val, .bool false]) (by simp [results, Tryz.results97, go_sem, d0, d1, d2]) rfl ⟨rfl, BF.out⟩
      · obtain ⟨hz1, hz2⟩ := parseB_none (Hn.out fun h => hr h.1)
        obtain rfl : pb = Bk.zero := PB.out.symm.trans hz1
        obtain rfl : pi = false := PI.out.symm.trans hz2
        have hr0 : (refE q 1 == 0) = false := by simpa using hr
        clear hz1 hz2
        generalize refE q 1 = r at hr hr0
        generalize recV q 1 = rq
        go_wp2_with ((with_reducible show wpList _ _ _ (Oper.mk none (Op.store _ (.tmp 2) _) _ _ _ _ :: _) _ _); refine wpList_store_bk rfl (.tmp 2) (.tmp 59) rfl w.heap.size Bk.zero Bk.zero rfl rfl R6.out ?_; intro wF k1 k2; obtain ⟨d0, d1, d2⟩ := k1.all; have BF := Lib.hid (B6.out.trans k2); clear k1 k2)
        exact bodyPost_ret (v := .tuple #[Bk.zero.val, .bool false]) (by simp [results, Tryz.results97, go_sem, d0, d1, d2]) rfl ⟨rfl, BF.out⟩
    · have hnI : (16 : Int) < (n : Int) := by omega
      obtain ⟨hz1, hz2⟩ := parseB_none (hrd2 hnI)
      obtain rfl : pb = Bk.zero := PB.out.symm.trans hz1
      obtain rfl : pi = false := PI.out.symm.trans hz2
      clear hz1 hz2 hrd1 hrd2 hn16 hn0
      go_wp2_with ((with_reducible show wpList _ _ _ (Oper.mk none (Op.store _ (.tmp 2) _) _ _ _ _ :: _) _ _); refine wpList_store_bk rfl (.tmp 2) (.tmp 39) rfl w.heap.size Bk.zero Bk.zero rfl rfl R4.out ?_; intro wF k1 k2; obtain ⟨d0, d1, d2⟩ := k1.all; have BF := Lib.hid (B4.out.trans k2); clear k1 k2)
      exact bodyPost_ret (v := .tuple #[Bk.zero.val, .bool false]) (by simp [results, Tryz.results97, go_sem, d0, d1, d2]) rfl ⟨rfl, BF.out⟩
  · obtain ⟨hz1, hz2⟩ := parseB_none (rparse_size h32)
    obtain rfl : pb = Bk.zero := PB.out.symm.trans hz1
    obtain rfl : pi = false := PI.out.symm.trans hz2
    have hI : ¬ (s.size : Int) = 32 := by omega
    clear hz1 hz2 h32
    go_enter Tryz.func97, Tryz.ntmps97
    go_wp2_with ((with_reducible show wpList _ _ _ (Oper.mk none (Op.store _ (.tmp 2) _) _ _ _ _ :: _) _ _); refine wpList_store_bk rfl (.tmp 2) (.tmp 17) rfl w.heap.size Bk.zero Bk.zero rfl rfl R0.out ?_; intro wF k1 k2; obtain ⟨d0, d1, d2⟩ := k1.all; have BF := Lib.hid (B0.out.trans k2); clear k1 k2)
    exact bodyPost_ret (v := .tuple #[Bk.zero.val, .bool false]) (by simp [results, Tryz.results97, go_sem, d0, d1, d2]) rfl ⟨rfl, BF.out⟩
end Go.Proofs.YtmmpknfkncgjpaaGreatDoor
