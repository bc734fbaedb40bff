/-
  StoreFences: a client's write is done just while its time is not over, and the epoch is the server's.
-/
import Derived.Test.YtmmpknfkncgjpaaGreatDoorM45
namespace Go.Proofs.YtmmpknfkncgjpaaGreatDoor
open Go.RowKit

set_option maxRecDepth 100000 in
set_option maxHeartbeats 8000000 in
theorem fencesLaw_any (u0 u1 u2 u3 u4 : Nat) (d : ByteArray) (w : World) (h0 : u0 < 256) (h1 : u1 < 256) (h2 : u2 < 256) (h3 : u3 < 256) (h4 : u4 < 256) (hT : Tab w) (hE : ErrType w) :
    Calls Tryz.prog 7 #[.int .u8 (u0 : Int), .int .u8 (u1 : Int), .int .u8 (u2 : Int), .int .u8 (u3 : Int), .int .u8 (u4 : Int), .string d] w fun e w' => e = .returned (.bool true) ∧ Below w.heap.size w w' := by
  by_cases hl : (1024 : Int) < (d.size : Int)
  · have hd1 : decide ((1024 : Int) < (d.size : Int)) = true := decide_eq_true hl
    clear hl
    go_enter Tryz.func7, Tryz.ntmps7
    go_wp2_with fail
    go_at_call 11
    refine (shown13_any hT hE).mono ?_
    rintro e w1 ⟨rfl, k1⟩
    go_wp2
    go_ret
    exact ⟨rfl, k1⟩
  have hd1 : decide ((1024 : Int) < (d.size : Int)) = false := decide_eq_false hl
  have HT := Lib.hid hT
  have HE := Lib.hid hE
  clear hl hT hE
  have wr : ∀ x : Int, 0 ≤ x → x < 1000 → IntKind.i64.wrap x = x := fun x h1 h2 => IntWalk.i64_in x (by omega)
  have wr0 := wr u0 (by omega) (by omega)
  have wr1 := wr u1 (by omega) (by omega)
  have wr2 := wr u2 (by omega) (by omega)
  have wr3 := wr u3 (by omega) (by omega)
  have wr4 := wr u4 (by omega) (by omega)
  obtain ⟨c, hc, c0, c1⟩ : ∃ c : Int, (u0 : Int).tmod 8 = c ∧ 0 ≤ c ∧ c < 8 := ⟨_, Int.tmod_eq_emod_of_nonneg (by omega), by omega, by omega⟩
  obtain ⟨E, he, e0, e1⟩ : ∃ c : Int, (u3 : Int).tmod 3 = c ∧ 0 ≤ c ∧ c ≤ 2 := ⟨_, Int.tmod_eq_emod_of_nonneg (by omega), by omega, by omega⟩
  obtain ⟨O, ho, o0, o1⟩ : ∃ c : Int, (u4 : Int).tmod 3 = c ∧ 0 ≤ c ∧ c ≤ 2 := ⟨_, Int.tmod_eq_emod_of_nonneg (by omega), by omega, by omega⟩
  have wc := wr c c0 (by omega)
  have we := wr E e0 (by omega)
  have wo := wr O o0 (by omega)
  have hU : valE (u1 : Int) ⟨#[]⟩ = 0 := valE_ok (by omega) (by omega) (by decide)
  have HV1 := Lib.hid (show ∀ V, Calls Tryz.prog 20 #[.int .i64 (u1 : Int), .string ⟨#[]⟩] V fun e w' => e = .returned (.tuple #[.string (valB (u1 : Int) ⟨#[]⟩), .int .i64 0]) ∧ Below V.heap.size V w' from fun V => by
    have := rvalue_any (u1 : Int) ⟨#[]⟩ V
    rw [show valO (u1 : Int) ⟨#[]⟩ = (valB (u1 : Int) ⟨#[]⟩, 0) from if_pos hU] at this
    exact this)
  clear wr
  go_enter Tryz.func7, Tryz.ntmps7
  go_wp2_with fail
  go_at_call 11
  refine (shown13_any HT.out HE.out).mono ?_
  rintro e w1 ⟨rfl, k1⟩
  have B1 := Lib.hid k1
  clear k1
  go_wp2_with fail
  go_at_call 12
  refine (hd_new (O := fun _ => False) B1.out HT.out 2 9 (fun _ h => h.elim)).mono ?_
  rintro e w2 ⟨tb, rfl, k1, -⟩
  have H := Lib.hid k1
  clear k1
  go_wp2_with fail
  go_at_call 20
  refine (HV1.out _).mono ?_
  rintro e w3 ⟨rfl, k1⟩
  have H := Lib.hid (H.out.below k1).1
  clear k1 HV1
  by_cases hd : valE 5 d = 0
  case neg =>
    have HV2 := Lib.hid (show ∀ V, Calls Tryz.prog 20 #[.int .i64 5, .string d] V fun e w' => e = .returned (.tuple #[.string ⟨#[]⟩, .int .i64 (valE 5 d)]) ∧ Below V.heap.size V w' from fun V => by
      have := rvalue_any 5 d V
      rw [show valO 5 d = (⟨#[]⟩, valE 5 d) from if_neg hd] at this
      exact this)
    have hz : (valE 5 d != 0) = true := by simpa using hd
    generalize valE 5 d = q at HV2 hz
    clear hd
    go_wp2_with fail
    go_at_call 20
    refine (HV2.out _).mono ?_
    rintro e w4 ⟨rfl, k1⟩
    have B4 := Lib.hid (H.out.bel.trans (k1.mono H.out.bel.size))
    clear k1
    go_wp2_with fail
    go_at_call 11
    refine (shown13_any (HT.out.below B4.out) (HE.out.below B4.out)).mono ?_
    rintro e w5 ⟨rfl, k1⟩
    have B5 := Lib.hid (B4.out.trans (k1.mono B4.out.size))
    clear k1
    go_wp2
    go_ret
    exact ⟨rfl, B5.out⟩
  have HV2 := Lib.hid (show ∀ V, Calls Tryz.prog 20 #[.int .i64 5, .string d] V fun e w' => e = .returned (.tuple #[.string (valB 5 d), .int .i64 0]) ∧ Below V.heap.size V w' from fun V => by
    have := rvalue_any 5 d V
    rw [show valO 5 d = (valB 5 d, 0) from if_pos hd] at this
    exact this)
  obtain ⟨f1a, f1s⟩ := fen1 e0 e1
  obtain ⟨st2, hst2, f2a, f2s⟩ := fen2 (E := E) o0 o1 c0 c1 hd
  obtain ⟨f3a, f3s⟩ := fen3 (E := E) c0 c1 hU
  obtain ⟨st4, s4, L4, v4, f4a, f4s, f4g⟩ := fen4 (E := E) (W := (u2 : Int)) o0 o1 c0 c1 hd (show (0 : Int) ≤ (u1 : Int) by omega)
  have Q := Lib.hid (PS.fresh 9)
  have F1A := Lib.hid f1a
  have F1S := Lib.hid f1s
  have F2A := Lib.hid f2a
  have F2S := Lib.hid f2s
  have F3A := Lib.hid f3a
  have F3S := Lib.hid f3s
  have F4A := Lib.hid f4a
  have F4S := Lib.hid f4s
  have F4G := Lib.hid f4g
  have hz2 : (st2 == 0) = false := by simpa using hst2
  clear f1a f1s f2a f2s f3a f3s f4a f4s f4g hst2 hU hd
  go_wp2_with fail
  go_at_call 20
  refine (HV2.out _).mono ?_
  rintro e w4 ⟨rfl, k1⟩
  have H := Lib.hid (H.out.below k1).1
  clear k1 HV2
  generalize hvv : valB 5 d = vv at *
  generalize htt : valB (u1 : Int) ⟨#[]⟩ = tt at *
  go_wp2_with ((with_reducible show wpList _ _ _ (Oper.mk none (Op.store _ (.tmp 19) _) _ _ _ _ :: _) _ _); refine wpList_store_msg rfl (.tmp 19) (.tmp 62) rfl w4.heap.size ⟨2, c, 2, O, 1, 4, 0, vv⟩ M.zero rfl rfl (MB.fresh w4 M.zero) ?_; intro w5 k1 k2 k3; have hbn := ((Below.refl w4.heap.size w4).alloc (Nat.le_refl _) (.cells M.zero.cells 31)).trans (Fb.below k2 (Nat.le_refl _) (by simp)); have P19 := Lib.hid k1; have H := Lib.hid (Hold.less (O' := fun k => k = w4.heap.size) (H.out.news hbn) (fun k hk => by (subst hk; exact .inr ⟨Nat.le_refl _, k1.lt⟩))); clear k1 k2 k3 hbn)
  have HH := Lib.hid (show Calls Tryz.prog 24 #[.pointer (some ⟨tb, 0, none⟩), .agg #[.int .i64 4, .int .i64 0, .int .i64 2, .int .i64 E, .int .i64 0, .int .i64 0, .int .i64 0, .string ⟨#[]⟩], .int .i64 0] w5 fun e w' => e = .returned (.tuple #[.agg #[.int .i64 132, .int .i64 2, .int .i64 0, .int .i64 E, .int .i64 0, .int .i64 0, .int .i64 0, .string ⟨#[]⟩], .bool true]) ∧ Hold w w' (SVo tb 2 (fresh 9) L9 (v1 E) (0 + 1)) (fun k => k = w4.heap.size) ∧ Kept (fun k => k = w4.heap.size) w5 w' from by
    have := hd_handle H.out HT.out HE.out Q.out (by omega) (by omega) ⟨4, 0, 2, E, 0, 0, 0, ⟨#[]⟩⟩ (show i64 (4 : Int) from (i64_iff _).2 (by decide)) 0
    rw [F1A.out, F1S.out] at this
    exact this)
  have Q := Lib.hid (Q.out.handle 2 ⟨4, 0, 2, E, 0, 0, 0, ⟨#[]⟩⟩ 0)
  rw [F1S.out] at Q
  go_at_call 24
  refine HH.out.mono ?_
  rintro e w6 ⟨rfl, k1, k2⟩
  have H := Lib.hid k1
  have P19 := Lib.hid (P19.out.kept (k2 _ (rfl)))
  clear k1 k2 HH
  go_wp2_with ((with_reducible show wpList _ _ _ (Oper.mk none (Op.store _ (.tmp 20) _) _ _ _ _ :: _) _ _); refine wpList_store_msg rfl (.tmp 20) (.tmp 70) rfl w6.heap.size ⟨132, 2, 0, E, 0, 0, 0, ⟨#[]⟩⟩ M.zero rfl rfl (MB.fresh w6 M.zero) ?_; intro w7 k1 k2 k3; have hbn := ((Below.refl w6.heap.size w6).alloc (Nat.le_refl _) (.cells M.zero.cells 31)).trans (Fb.below k2 (Nat.le_refl _) (by simp)); have P20 := Lib.hid k1; have P19 := Lib.hid (P19.out.below hbn); have H := Lib.hid (Hold.less (O' := fun k => k = w4.heap.size ∨ k = w6.heap.size) (H.out.news hbn) (fun k hk => by rcases hk with rfl | rfl; exact .inl rfl; exact .inr ⟨Nat.le_refl _, k1.lt⟩)); have x190 : w7.cell? ⟨w4.heap.size, 0, none⟩ = some (.int .i64 2) := P19.out.cell 0; have x191 : w7.cell? ⟨w4.heap.size, 1, none⟩ = some (.int .i64 c) := P19.out.cell 1; have x192 : w7.cell? ⟨w4.heap.size, 2, none⟩ = some (.int .i64 2) := P19.out.cell 2; have x193 : w7.cell? ⟨w4.heap.size, 3, none⟩ = some (.int .i64 O) := P19.out.cell 3; have x194 : w7.cell? ⟨w4.heap.size, 4, none⟩ = some (.int .i64 1) := P19.out.cell 4; have x195 : w7.cell? ⟨w4.heap.size, 5, none⟩ = some (.int .i64 4) := P19.out.cell 5; have x196 : w7.cell? ⟨w4.heap.size, 6, none⟩ = some (.int .i64 0) := P19.out.cell 6; have x197 : w7.cell? ⟨w4.heap.size, 7, none⟩ = some (.string vv) := P19.out.cell 7; clear k1 k2 k3 hbn)
  have HH := Lib.hid (show Calls Tryz.prog 24 #[.pointer (some ⟨tb, 0, none⟩), .agg #[.int .i64 2, .int .i64 c, .int .i64 2, .int .i64 O, .int .i64 1, .int .i64 4, .int .i64 0, .string vv], .int .i64 0] w7 fun e w' => e = .returned (.tuple #[.agg #[.int .i64 130, .int .i64 2, .int .i64 c, .int .i64 E, .int .i64 1, .int .i64 4, .int .i64 st2, .string ⟨#[]⟩], .bool true]) ∧ Hold w w' (SVo tb 2 (fresh 9) L9 (v1 E) ((0 + 1) + 1)) (fun k => k = w4.heap.size ∨ k = w6.heap.size) ∧ Kept (fun k => k = w4.heap.size ∨ k = w6.heap.size) w7 w' from by
    have := hd_handle H.out HT.out HE.out Q.out (by omega) (by omega) ⟨2, c, 2, O, 1, 4, 0, vv⟩ (show i64 (2 : Int) from (i64_iff _).2 (by decide)) 0
    rw [F2A.out, F2S.out] at this
    exact this)
  have Q := Lib.hid (Q.out.handle 2 ⟨2, c, 2, O, 1, 4, 0, vv⟩ 0)
  rw [F2S.out] at Q
  go_at_call 24
  refine HH.out.mono ?_
  rintro e w8 ⟨rfl, k1, k2⟩
  have H := Lib.hid k1
  have P19 := Lib.hid (P19.out.kept (k2 _ ((.inl rfl))))
  have P20 := Lib.hid (P20.out.kept (k2 _ ((.inr rfl))))
  clear k1 k2 HH
  clear x190 x191 x192 x193 x194 x195 x196 x197
  go_wp2_with ((with_reducible show wpList _ _ _ (Oper.mk none (Op.store _ (.tmp 22) _) _ _ _ _ :: _) _ _); refine wpList_store_msg rfl (.tmp 22) (.tmp 76) rfl w8.heap.size ⟨130, 2, c, E, 1, 4, st2, ⟨#[]⟩⟩ M.zero rfl rfl (MB.fresh w8 M.zero) ?_; intro w9 k1 k2 k3; have hbn := ((Below.refl w8.heap.size w8).alloc (Nat.le_refl _) (.cells M.zero.cells 31)).trans (Fb.below k2 (Nat.le_refl _) (by simp)); have P22 := Lib.hid k1; have P19 := Lib.hid (P19.out.below hbn); have P20 := Lib.hid (P20.out.below hbn); have H := Lib.hid (Hold.less (O' := fun k => k = w4.heap.size ∨ k = w6.heap.size ∨ k = w8.heap.size) (H.out.news hbn) (fun k hk => by rcases hk with rfl | rfl | rfl; exact .inl (.inl rfl); exact .inl (.inr rfl); exact .inr ⟨Nat.le_refl _, k1.lt⟩)); clear k1 k2 k3 hbn)
  have HH := Lib.hid (show Calls Tryz.prog 24 #[.pointer (some ⟨tb, 0, none⟩), .agg #[.int .i64 3, .int .i64 0, .int .i64 2, .int .i64 0, .int .i64 0, .int .i64 c, .int .i64 0, .string tt], .int .i64 0] w9 fun e w' => e = .returned (.tuple #[.agg #[.int .i64 131, .int .i64 2, .int .i64 0, .int .i64 E, .int .i64 0, .int .i64 c, .int .i64 0, .string ⟨#[]⟩], .bool true]) ∧ Hold w w' (SVo tb 2 (fresh 9) L9 (v2 E c (u1 : Int)) ((0 + 1 + 1) + 1)) (fun k => k = w4.heap.size ∨ k = w6.heap.size ∨ k = w8.heap.size) ∧ Kept (fun k => k = w4.heap.size ∨ k = w6.heap.size ∨ k = w8.heap.size) w9 w' from by
    have := hd_handle H.out HT.out HE.out Q.out (by omega) (by omega) ⟨3, 0, 2, 0, 0, c, 0, tt⟩ (show i64 (3 : Int) from (i64_iff _).2 (by decide)) 0
    rw [F3A.out, F3S.out] at this
    exact this)
  have Q := Lib.hid (Q.out.handle 2 ⟨3, 0, 2, 0, 0, c, 0, tt⟩ 0)
  rw [F3S.out] at Q
  go_at_call 24
  refine HH.out.mono ?_
  rintro e w10 ⟨rfl, k1, k2⟩
  have H := Lib.hid k1
  have P19 := Lib.hid (P19.out.kept (k2 _ ((.inl rfl))))
  have P20 := Lib.hid (P20.out.kept (k2 _ ((.inr (.inl rfl)))))
  have P22 := Lib.hid (P22.out.kept (k2 _ ((.inr (.inr rfl)))))
  clear k1 k2 HH
  go_wp2_with ((with_reducible show wpList _ _ _ (Oper.mk none (Op.store _ (.tmp 24) _) _ _ _ _ :: _) _ _); refine wpList_store_msg rfl (.tmp 24) (.tmp 84) rfl w10.heap.size ⟨131, 2, 0, E, 0, c, 0, ⟨#[]⟩⟩ M.zero rfl rfl (MB.fresh w10 M.zero) ?_; intro w11 k1 k2 k3; have hbn := ((Below.refl w10.heap.size w10).alloc (Nat.le_refl _) (.cells M.zero.cells 31)).trans (Fb.below k2 (Nat.le_refl _) (by simp)); have P24 := Lib.hid k1; have P19 := Lib.hid (P19.out.below hbn); have P20 := Lib.hid (P20.out.below hbn); have P22 := Lib.hid (P22.out.below hbn); have H := Lib.hid (Hold.less (O' := fun k => k = w4.heap.size ∨ k = w6.heap.size ∨ k = w8.heap.size ∨ k = w10.heap.size) (H.out.news hbn) (fun k hk => by rcases hk with rfl | rfl | rfl | rfl; exact .inl (.inl rfl); exact .inl (.inr (.inl rfl)); exact .inl (.inr (.inr rfl)); exact .inr ⟨Nat.le_refl _, k1.lt⟩)); have x206 : w11.cell? ⟨w6.heap.size, 6, none⟩ = some (.int .i64 0) := P20.out.cell 6; have x226 : w11.cell? ⟨w8.heap.size, 6, none⟩ = some (.int .i64 st2) := P22.out.cell 6; have x246 : w11.cell? ⟨w10.heap.size, 6, none⟩ = some (.int .i64 0) := P24.out.cell 6; have x190 : w11.cell? ⟨w4.heap.size, 0, none⟩ = some (.int .i64 2) := P19.out.cell 0; have x191 : w11.cell? ⟨w4.heap.size, 1, none⟩ = some (.int .i64 c) := P19.out.cell 1; have x192 : w11.cell? ⟨w4.heap.size, 2, none⟩ = some (.int .i64 2) := P19.out.cell 2; have x193 : w11.cell? ⟨w4.heap.size, 3, none⟩ = some (.int .i64 O) := P19.out.cell 3; have x194 : w11.cell? ⟨w4.heap.size, 4, none⟩ = some (.int .i64 1) := P19.out.cell 4; have x195 : w11.cell? ⟨w4.heap.size, 5, none⟩ = some (.int .i64 4) := P19.out.cell 5; have x196 : w11.cell? ⟨w4.heap.size, 6, none⟩ = some (.int .i64 0) := P19.out.cell 6; have x197 : w11.cell? ⟨w4.heap.size, 7, none⟩ = some (.string vv) := P19.out.cell 7; clear k1 k2 k3 hbn)
  have HH := Lib.hid (show Calls Tryz.prog 24 #[.pointer (some ⟨tb, 0, none⟩), .agg #[.int .i64 2, .int .i64 c, .int .i64 2, .int .i64 O, .int .i64 1, .int .i64 4, .int .i64 0, .string vv], .int .i64 (u2 : Int)] w11 fun e w' => e = .returned (.tuple #[.agg #[.int .i64 130, .int .i64 2, .int .i64 c, .int .i64 E, .int .i64 1, .int .i64 4, .int .i64 st4, .string ⟨#[]⟩], .bool true]) ∧ Hold w w' (SVo tb 2 s4 L4 v4 ((0 + 1 + 1 + 1) + 1)) (fun k => k = w4.heap.size ∨ k = w6.heap.size ∨ k = w8.heap.size ∨ k = w10.heap.size) ∧ Kept (fun k => k = w4.heap.size ∨ k = w6.heap.size ∨ k = w8.heap.size ∨ k = w10.heap.size) w11 w' from by
    have := hd_handle H.out HT.out HE.out Q.out (by omega) (by omega) ⟨2, c, 2, O, 1, 4, 0, vv⟩ (show i64 (2 : Int) from (i64_iff _).2 (by decide)) (u2 : Int)
    rw [F4A.out, F4S.out] at this
    exact this)
  have Q := Lib.hid (Q.out.handle 2 ⟨2, c, 2, O, 1, 4, 0, vv⟩ (u2 : Int))
  rw [F4S.out] at Q
  go_at_call 24
  refine HH.out.mono ?_
  rintro e w12 ⟨rfl, k1, k2⟩
  have H := Lib.hid k1
  have P19 := Lib.hid (P19.out.kept (k2 _ ((.inl rfl))))
  have P20 := Lib.hid (P20.out.kept (k2 _ ((.inr (.inl rfl)))))
  have P22 := Lib.hid (P22.out.kept (k2 _ ((.inr (.inr (.inl rfl))))))
  have P24 := Lib.hid (P24.out.kept (k2 _ ((.inr (.inr (.inr rfl))))))
  clear k1 k2 HH
  clear x190 x191 x192 x193 x194 x195 x196 x197 x206 x226 x246
  have HG := Lib.hid (fun V (h : Hold w V (SVo tb 2 s4 L4 v4 (0 + 1 + 1 + 1 + 1)) (fun k => k = w12.heap.size)) => hd_get h (i := 4) ((i64_iff _).2 (by decide)))
  have hself : (d.toList == d.toList) = true := by simp
  have H := Lib.hid (Hold.less (O' := fun _ => False) H.out (fun _ h => h.elim))
  rcases F4G.out with ⟨hne, rfl, g4⟩ | ⟨heq, hgt, rfl, g4⟩ | ⟨heq, hgt, rfl, g4⟩
  · have hn : (O != E) = true := by simpa using hne
    by_cases hgt : (u1 : Int) < (u2 : Int)
    · have hdd : decide ((u1 : Int) < (u2 : Int)) = true := decide_eq_true (by omega)
      go_wp2_with ((with_reducible show wpList _ _ _ (Oper.mk none (Op.store _ (.tmp 26) _) _ _ _ _ :: _) _ _); refine wpList_store_msg rfl (.tmp 26) (.tmp 117) rfl w12.heap.size ⟨130, 2, c, E, 1, 4, 120, ⟨#[]⟩⟩ M.zero rfl rfl (MB.fresh w12 M.zero) ?_; intro w13 k1 k2 k3; have hbn := ((Below.refl w12.heap.size w12).alloc (Nat.le_refl _) (.cells M.zero.cells 31)).trans (Fb.below k2 (Nat.le_refl _) (by simp)); have P26 := Lib.hid k1; have H := Lib.hid (Hold.less (O' := fun k => k = w12.heap.size) (H.out.news hbn) (fun k hk => by (subst hk; exact .inr ⟨Nat.le_refl _, k1.lt⟩))); clear k1 k2 k3 hbn)
      have HGg := Lib.hid (HG.out _ H.out)
      rw [g4] at HGg
      go_at_call 27
      refine HGg.out.mono ?_
      rintro e w14 ⟨rfl, k1⟩
      have H := Lib.hid (H.out.below k1).1
      have P26 := Lib.hid (P26.out.below k1)
      clear k1 HGg HG
      go_wp2_with ((with_reducible show wpList _ _ _ (Oper.mk none (Op.store _ (.tmp 29) _) _ _ _ _ :: _) _ _); refine wpList_store_bk rfl (.tmp 29) (.tmp 132) rfl w14.heap.size Bk.zero Bk.zero rfl rfl (AB.fresh w14 Bk.zero) ?_; intro w15 k1 k2; obtain ⟨d0, d1, d2⟩ := k1.all; have hbn := ((Below.refl w14.heap.size w14).alloc (Nat.le_refl _) (.cells Bk.zero.cells 34)).trans k2; have P26 := Lib.hid (P26.out.below hbn); have x3 : w15.cell? ⟨w12.heap.size, 3, none⟩ = some (.int .i64 E) := P26.out.cell 3; have x6 : w15.cell? ⟨w12.heap.size, 6, none⟩ = some (.int .i64 120) := P26.out.cell 6; have B15 := Lib.hid (H.out.bel.trans (hbn.mono H.out.bel.size)); clear k1 k2 hbn)
      go_ret
      exact ⟨rfl, B15.out⟩
    · have hdd : decide ((u1 : Int) < (u2 : Int)) = false := decide_eq_false (by omega)
      go_wp2_with ((with_reducible show wpList _ _ _ (Oper.mk none (Op.store _ (.tmp 26) _) _ _ _ _ :: _) _ _); refine wpList_store_msg rfl (.tmp 26) (.tmp 117) rfl w12.heap.size ⟨130, 2, c, E, 1, 4, 120, ⟨#[]⟩⟩ M.zero rfl rfl (MB.fresh w12 M.zero) ?_; intro w13 k1 k2 k3; have hbn := ((Below.refl w12.heap.size w12).alloc (Nat.le_refl _) (.cells M.zero.cells 31)).trans (Fb.below k2 (Nat.le_refl _) (by simp)); have P26 := Lib.hid k1; have H := Lib.hid (Hold.less (O' := fun k => k = w12.heap.size) (H.out.news hbn) (fun k hk => by (subst hk; exact .inr ⟨Nat.le_refl _, k1.lt⟩))); clear k1 k2 k3 hbn)
      have HGg := Lib.hid (HG.out _ H.out)
      rw [g4] at HGg
      go_at_call 27
      refine HGg.out.mono ?_
      rintro e w14 ⟨rfl, k1⟩
      have H := Lib.hid (H.out.below k1).1
      have P26 := Lib.hid (P26.out.below k1)
      clear k1 HGg HG
      go_wp2_with ((with_reducible show wpList _ _ _ (Oper.mk none (Op.store _ (.tmp 29) _) _ _ _ _ :: _) _ _); refine wpList_store_bk rfl (.tmp 29) (.tmp 132) rfl w14.heap.size Bk.zero Bk.zero rfl rfl (AB.fresh w14 Bk.zero) ?_; intro w15 k1 k2; obtain ⟨d0, d1, d2⟩ := k1.all; have hbn := ((Below.refl w14.heap.size w14).alloc (Nat.le_refl _) (.cells Bk.zero.cells 34)).trans k2; have P26 := Lib.hid (P26.out.below hbn); have x3 : w15.cell? ⟨w12.heap.size, 3, none⟩ = some (.int .i64 E) := P26.out.cell 3; have x6 : w15.cell? ⟨w12.heap.size, 6, none⟩ = some (.int .i64 120) := P26.out.cell 6; have B15 := Lib.hid (H.out.bel.trans (hbn.mono H.out.bel.size)); clear k1 k2 hbn)
      go_ret
      exact ⟨rfl, B15.out⟩
  · have hn : (O != E) = false := by simp [heq]
    have hdd : decide ((u1 : Int) < (u2 : Int)) = true := decide_eq_true hgt
    go_wp2_with ((with_reducible show wpList _ _ _ (Oper.mk none (Op.store _ (.tmp 26) _) _ _ _ _ :: _) _ _); refine wpList_store_msg rfl (.tmp 26) (.tmp 117) rfl w12.heap.size ⟨130, 2, c, E, 1, 4, 140, ⟨#[]⟩⟩ M.zero rfl rfl (MB.fresh w12 M.zero) ?_; intro w13 k1 k2 k3; have hbn := ((Below.refl w12.heap.size w12).alloc (Nat.le_refl _) (.cells M.zero.cells 31)).trans (Fb.below k2 (Nat.le_refl _) (by simp)); have P26 := Lib.hid k1; have H := Lib.hid (Hold.less (O' := fun k => k = w12.heap.size) (H.out.news hbn) (fun k hk => by (subst hk; exact .inr ⟨Nat.le_refl _, k1.lt⟩))); clear k1 k2 k3 hbn)
    have HGg := Lib.hid (HG.out _ H.out)
    rw [g4] at HGg
    go_at_call 27
    refine HGg.out.mono ?_
    rintro e w14 ⟨rfl, k1⟩
    have H := Lib.hid (H.out.below k1).1
    have P26 := Lib.hid (P26.out.below k1)
    clear k1 HGg HG
    go_wp2_with ((with_reducible show wpList _ _ _ (Oper.mk none (Op.store _ (.tmp 29) _) _ _ _ _ :: _) _ _); refine wpList_store_bk rfl (.tmp 29) (.tmp 132) rfl w14.heap.size Bk.zero Bk.zero rfl rfl (AB.fresh w14 Bk.zero) ?_; intro w15 k1 k2; obtain ⟨d0, d1, d2⟩ := k1.all; have hbn := ((Below.refl w14.heap.size w14).alloc (Nat.le_refl _) (.cells Bk.zero.cells 34)).trans k2; have P26 := Lib.hid (P26.out.below hbn); have x3 : w15.cell? ⟨w12.heap.size, 3, none⟩ = some (.int .i64 E) := P26.out.cell 3; have x6 : w15.cell? ⟨w12.heap.size, 6, none⟩ = some (.int .i64 140) := P26.out.cell 6; have B15 := Lib.hid (H.out.bel.trans (hbn.mono H.out.bel.size)); clear k1 k2 hbn)
    go_ret
    exact ⟨rfl, B15.out⟩
  · have hn : (O != E) = false := by simp [heq]
    have hdd : decide ((u1 : Int) < (u2 : Int)) = false := decide_eq_false (by omega)
    go_wp2_with ((with_reducible show wpList _ _ _ (Oper.mk none (Op.store _ (.tmp 26) _) _ _ _ _ :: _) _ _); refine wpList_store_msg rfl (.tmp 26) (.tmp 117) rfl w12.heap.size ⟨130, 2, c, E, 1, 4, 0, ⟨#[]⟩⟩ M.zero rfl rfl (MB.fresh w12 M.zero) ?_; intro w13 k1 k2 k3; have hbn := ((Below.refl w12.heap.size w12).alloc (Nat.le_refl _) (.cells M.zero.cells 31)).trans (Fb.below k2 (Nat.le_refl _) (by simp)); have P26 := Lib.hid k1; have H := Lib.hid (Hold.less (O' := fun k => k = w12.heap.size) (H.out.news hbn) (fun k hk => by (subst hk; exact .inr ⟨Nat.le_refl _, k1.lt⟩))); clear k1 k2 k3 hbn)
    have HGg := Lib.hid (HG.out _ H.out)
    rw [g4] at HGg
    go_at_call 27
    refine HGg.out.mono ?_
    rintro e w14 ⟨rfl, k1⟩
    have H := Lib.hid (H.out.below k1).1
    have P26 := Lib.hid (P26.out.below k1)
    clear k1 HGg HG
    go_wp2_with ((with_reducible show wpList _ _ _ (Oper.mk none (Op.store _ (.tmp 29) _) _ _ _ _ :: _) _ _); refine wpList_store_bk rfl (.tmp 29) (.tmp 132) rfl w14.heap.size ⟨4, 5, d⟩ Bk.zero rfl rfl (AB.fresh w14 Bk.zero) ?_; intro w15 k1 k2; obtain ⟨d0, d1, d2⟩ := k1.all; have hbn := ((Below.refl w14.heap.size w14).alloc (Nat.le_refl _) (.cells Bk.zero.cells 34)).trans k2; have P26 := Lib.hid (P26.out.below hbn); have x3 : w15.cell? ⟨w12.heap.size, 3, none⟩ = some (.int .i64 E) := P26.out.cell 3; have x6 : w15.cell? ⟨w12.heap.size, 6, none⟩ = some (.int .i64 0) := P26.out.cell 6; have B15 := Lib.hid (H.out.bel.trans (hbn.mono H.out.bel.size)); clear k1 k2 hbn)
    go_ret
    exact ⟨rfl, B15.out⟩
end Go.Proofs.YtmmpknfkncgjpaaGreatDoor
