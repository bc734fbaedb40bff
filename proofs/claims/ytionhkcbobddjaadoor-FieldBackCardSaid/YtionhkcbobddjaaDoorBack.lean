/-
  FieldBack, walked: it answers true, and nothing that was there turns.
-/
import Derived.Test.YtionhkcbobddjaaDoorGood
namespace Go.Proofs.YtionhkcbobddjaaDoor
open Go.RowKit Go.Extern.Stop Go.Stop Go.Extern Go.PlainAid Go.Lib

theorem infoStep : (Tryd.prog.info? 31).map (fun i => (i.zero, i.size, i.bytes)) = some (some (.agg #[.int .i64 0, .int .i64 0, .int .i64 0, .string ⟨#[]⟩]), 4, 40) := by kernel_rfl
theorem chained_nil (w : World) : Chained w .nilIface [] := rfl
theorem one_ne0 : ((1 : Int) = 0) = False := by decide
theorem cells4_one (x : Stp) : ∀ u ∈ cells4 x, u.oneCell' = true := by
  intro u hu
  simp only [cells4, List.mem_cons, List.not_mem_nil, or_false] at hu
  rcases hu with rfl | rfl | rfl | rfl <;> rfl

set_option maxRecDepth 100000 in
set_option maxHeartbeats 8000000 in
theorem fieldBack_any (A : Option Addr) (n c : Nat) (kd nn kk : Nat → Int) (ss : Nat → ByteArray) (w : World) (hg : ErrType w) (hn : n ≤ 9223372036854775807) (hnn : ∀ i, i < n → nn i ≤ 9223372036854775807) (hss : ∀ i, i < n → (ss i).size ≤ 9223372036854775807) (hS : Steps w A n kd nn kk ss) :
    Calls Tryd.prog 5 #[.slice A n c] w fun e w' => e = .returned (.bool true) ∧ Below w.heap.size w w' := by
  obtain ⟨i0, hi0, hz0, hz1, hz2⟩ := info_parts infoStep
  have HG := Lib.hid hg
  have HS := Lib.hid hS
  have HN := Lib.hid hnn
  have HH := Lib.hid (heavy_any A n c kd nn kk ss w hn hss hS)
  clear hg hS hnn hss
  go_enter Tryd.func5, Tryd.ntmps5
  go_wp2_with fail
  go_at_call 9
  refine HH.out.mono ?_
  rintro e w' ⟨h, rfl, hh, rfl⟩
  cases h with
  | true =>
    clear hh
    go_wp2
    go_ret
    exact ⟨rfl, Below.refl _ _⟩
  | false =>
  have hn8 := hh rfl
  clear hh
  go_wp2_with fail
  go_at_call 10
  refine (newWriter _).mono ?_
  rintro e w1 ⟨rfl, hW1, hb1, hz1'⟩
  have hbA : Below w1.heap.size w1 (w1.alloc (.cells #[.slice none 0 0] 29)) := (Below.refl _ _).alloc (Nat.le_refl _) _
  have hbB : Below (w1.heap.size + 1) (w1.alloc (.cells #[.slice none 0 0] 29)) ((w1.alloc (.cells #[.slice none 0 0] 29)).alloc (.cells #[] 31)) := (Below.refl _ _).alloc (by simp) _
  have hTw : Two (w1.alloc (.cells #[.slice none 0 0] 29)) w.heap.size none [] w1.heap.size none [] :=
    ⟨hW1.below hbA, ⟨.slice none 0 0, by simp, by simp, World.ownsRow_nil _ _ _ _, rfl⟩, by omega, by simp, by simp, by simp⟩
  have T0 := Lib.hid (show St ((w1.alloc (.cells #[.slice none 0 0] 29)).alloc (.cells #[] 31)) w.heap.size w1.heap.size none none (w1.heap.size + 1) 0 (bytesOf []) (bytesOf []) [] from
    ⟨hTw.below (by simpa using hbB), ⟨rfl, .inr ⟨w1.heap.size + 1, 0, #[], rfl, Nat.le_refl _, by have := heap_alloc_new (w1.alloc (.cells #[.slice none 0 0] 29)) (.cells #[] 31); simpa using this, Nat.le_refl _, by decide, rfl, rfl⟩⟩, by simp, by simp, hz1'⟩)
  have B0 := Lib.hid (show Below w.heap.size w ((w1.alloc (.cells #[.slice none 0 0] 29)).alloc (.cells #[] 31)) from (hb1.alloc (Nat.le_of_lt hz1') _).alloc (by simp; omega) _)
  have Z1 := Lib.hid (Nat.le_of_lt hz1')
  clear hW1 hb1 hz1' hbA hbB hTw
  go_wp2
  generalize ((w1.alloc (.cells #[.slice none 0 0] 29)).alloc (.cells #[] 31)) = w0 at T0 B0 ⊢
  generalize hB2 : w1.heap.size = B2 at T0 Z1 ⊢
  clear hB2
  go_loopw [5, 6] (fun gv i wr => ∃ (k : Nat) (r1 r2 : Option Nat) (gg gc : Nat) (gs : List Stp), k ≤ n ∧ i = .int .i64 k ∧ gv = .slice (some ⟨gg, 0, none⟩) gs.length gc ∧ St wr w.heap.size B2 r1 r2 gg gc (bytesOf gs) (bytesOf gs) gs ∧ (∀ x ∈ gs, ValidS x) ∧ gs.length ≤ k ∧ (bytesOf gs).length ≤ k * 1034 ∧ Below w.heap.size w wr) (fun _ i _ => n - (intOf i).toNat)
  case atStart => exact ⟨0, none, none, B2 + 1, 0, [], Nat.zero_le _, rfl, rfl, T0.out, fun x hx => (by cases hx), Nat.zero_le _, by simp [bytesOf], B0.out⟩
  case round =>
    obtain ⟨k, r1, r2, gg, gc, gs, hk, rfl, rfl, hT, hV, hgl, hl, hB⟩ := hrel
    have Tr := Lib.hid hT
    have Br := Lib.hid hB
    have HL := Lib.hid hl
    have HV := Lib.hid hV
    have hgn : gs.length ≤ 8192 := by omega
    have hlen : (bytesOf gs).length ≤ 10000000 := by omega
    clear hT hB hl hV
    by_cases hlt : k < n
    · obtain ⟨b, off, hA, c0, c1, c2, c3⟩ := HS.out k hlt
      subst hA
      have hbl := cell_lt c0
      have d0 : wr.cell? ⟨b, off + k * 4, none⟩ = some (.int .i64 (kd k)) := by rw [Br.out.cell (p := ⟨b, off + k * 4, none⟩) hbl]; exact c0
      have d1 : wr.cell? ⟨b, off + k * 4 + 1, none⟩ = some (.int .i64 (nn k)) := by rw [Br.out.cell (p := ⟨b, off + k * 4 + 1, none⟩) hbl]; exact c1
      have d2 : wr.cell? ⟨b, off + k * 4 + 2, none⟩ = some (.int .i64 (kk k)) := by rw [Br.out.cell (p := ⟨b, off + k * 4 + 2, none⟩) hbl]; exact c2
      have d3 : wr.cell? ⟨b, off + k * 4 + 3, none⟩ = some (.string (ss k)) := by rw [Br.out.cell (p := ⟨b, off + k * 4 + 3, none⟩) hbl]; exact c3
      have HNk := Lib.hid (HN.out k hlt)
      have hlI : (k : Int) < (n : Int) := by omega
      have hkI : (0 : Int) ≤ (k : Int) := by omega
      have hd : decide ((k : Int) < (n : Int)) = true := by simp only [decide_eq_true_eq]; omega
      clear c0 c1 c2 c3
      generalize kd k = q at d0
      generalize nn k = N at d1 HNk
      generalize kk k = K at d2
      generalize ss k = S at d3
      have hbO : Below wr.heap.size wr (wr.alloc (.cells #[.int .i64 q, .int .i64 N, .int .i64 K, .string S] 31)) := (Below.refl _ _).alloc (Nat.le_refl _) _
      have TO := Lib.hid (Tr.out.below hbO)
      have BO := Lib.hid (Br.out.trans (hbO.mono Br.out.size))
      have OO := Lib.hid (show Oc (wr.alloc (.cells #[.int .i64 q, .int .i64 N, .int .i64 K, .string S] 31)) wr.heap.size (q, N, K, S) w.heap.size B2 r1 r2 gg from
        ⟨⟨by simp, Nat.ne_of_gt Tr.out.1.1.lt, Nat.ne_of_gt Tr.out.1.2.1.lt, fun e => by have := (Tr.out.1.1.row_lt e).2; omega, fun e => by have := (Tr.out.1.2.1.row_lt e).2; omega, Nat.ne_of_lt Tr.out.2.1.lt.2⟩, by simp, by simp, by simp, by simp⟩)
      clear hbO
      by_cases q0 : q = 0
      · subst q0
        by_cases hFt : Fits N K
        · have HFt := Lib.hid hFt
          clear hFt
          go_wp2_with fail
          generalize wr.alloc (.cells #[.int .i64 0, .int .i64 N, .int .i64 K, .string S] 31) = wo at TO BO OO ⊢
          generalize hO : wr.heap.size = O at OO ⊢
          clear hO
          go_at_call 13
          refine (refnum_ok _ _ _ N K _ HFt.out TO.out.1.2.1 (by omega)).mono ?_
          rintro e wa ⟨rfl, ra, hWx, hrx, hfx⟩
          have Ta := Lib.hid (TO.out.w2 OO.out hWx hrx hfx)
          have Ba := Lib.hid (BO.out.trans ((hfx.below (Nat.le_of_lt TO.out.1.2.1.lt) (fun g hg => (TO.out.1.2.1.row_lt hg).1)).mono Z1.out))
          clear hWx hrx hfx
          go_wp2_with fail
          go_at_call 27
          refine (rcode_any none 0 0 [] 0 _ RF.none_ (by decide)).mono ?_
          rintro e wb ⟨rfl, hbx⟩
          have Tb := Lib.hid (Ta.out.1.below hbx)
          have Ob := Lib.hid (Ta.out.2.below hbx)
          have Bb := Lib.hid (Ba.out.trans (hbx.mono Ba.out.size))
          obtain ⟨-, o0, o1, o2, o3⟩ := Ta.out.2.below hbx
          clear hbx
          go_wp2_with fail
          go_at_call 12
          refine (num_ok _ _ _ N K _ HFt.out Tb.out.1.1 (by omega)).mono ?_
          rintro e wc ⟨rfl, rc, hWx, hrx, hfx⟩
          have Tc := Lib.hid (Tb.out.w1 Ob.out hWx hrx hfx)
          have Bc := Lib.hid (Bb.out.trans (hfx.below (Nat.le_of_lt Tb.out.1.1.lt) (fun g hg => (Tb.out.1.1.row_lt hg).1)))
          clear hWx hrx hfx o0 o1 o2 o3
          go_wp2_with fail
          go_at_call 18
          refine (code_any _ [] _ (HG.out.below Bc.out) rfl (by decide)).mono ?_
          rintro e wd ⟨rfl, hbx⟩
          have Td := Lib.hid (Tc.out.1.below hbx)
          have Od := Lib.hid (Tc.out.2.below hbx)
          have Bd := Lib.hid (Bc.out.trans (hbx.mono Bc.out.size))
          obtain ⟨-, o0, o1, o2, o3⟩ := Tc.out.2.below hbx
          have hown := Td.out.2.1
          unfold Gd at hown
          have hbs := Td.out.2.1.lt
          clear hbx
          go_wp2_with (at_builtin; refine wpList_append_lies _ rfl (.tmp 53) (.tmp 55) 22 rfl (B2 + 1) 31 i0 _ 4 40 Tryd.underlying22 hi0 hz0 hz1 hz2 rfl (by decide) _ _ _ rfl (hown.alloc _) ⟨wd.heap.size, 0, none⟩ 1 1 (cells4 (0, N, K, S)) rfl rfl (World.news_of_block (cs := #[.int .i64 0, .int .i64 N, .int .i64 K, .string S]) (t := 31) (fr := (0, 0)) (heap_alloc_new wd _)) (cells4_one _) (by decide) (by unfold maxLen; omega) (by omega) (by simp; omega) (wd.heap.size + 1) (by simp) ?_; intro g' c' we hown2 hgrow hat hglt; (obtain ⟨hTe, hOe, hBe⟩ := Td.out.app Od.out hown2 hgrow hat); have Te := Lib.hid hTe; have Oe := Lib.hid hOe; have Be := Lib.hid (Bd.out.trans (hBe.mono (Nat.le_succ _))); (obtain ⟨-, x0, x1, x2, x3⟩ := hOe); clear hTe hBe hown2 hgrow hat hglt hown)
          go_roundw
          case rel =>
            refine ⟨k + 1, rc, ra, g', c', gs ++ [(0, N, K, S)], by omega, by go_num, by simp, ?_, ?_, by simp; omega, ?_, Be.out⟩
            · rw [bytesOf_snoc]; exact Te.out
            · intro y hy
              rcases List.mem_append.1 hy with h | h
              · exact HV.out y h
              · simp only [List.mem_cons, List.not_mem_nil, or_false] at h
                subst h
                exact .inl ⟨rfl, HFt.out⟩
            · rw [bytesOf_snoc, List.length_append]
              have hE : (encS (0, N, K, S)).length ≤ 1034 := by
                show (leb N K.toNat).length ≤ 1034; rw [leb_len N K.toNat (by have := HFt.out; unfold Fits at this; omega)]; have := HFt.out; unfold Fits at this; omega
              have := HL.out; omega
          case measure => simp [intOf]; omega
        · have HFt := Lib.hid hFt
          clear hFt
          go_wp2_with fail
          generalize wr.alloc (.cells #[.int .i64 0, .int .i64 N, .int .i64 K, .string S] 31) = wo at TO BO OO ⊢
          generalize hO : wr.heap.size = O at OO ⊢
          clear hO
          go_at_call 13
          refine (refnum_bad _ _ _ N K _ HFt.out HNk.out TO.out.1.2.1).mono ?_
          rintro e wa ⟨Aa, ata, rfl, hRx, hbx⟩
          have Ta := Lib.hid (TO.out.below hbx)
          have Oa := Lib.hid (OO.out.below hbx)
          have Ra := Lib.hid hRx
          have Ba := Lib.hid (BO.out.trans (hbx.mono BO.out.size))
          clear hbx hRx
          go_wp2_with fail
          go_at_call 27
          refine (rcode_any Aa 1 1 [1] ata _ Ra.out (by decide)).mono ?_
          rintro e wb ⟨rfl, hbx⟩
          have Tb := Lib.hid (Ta.out.below hbx)
          have Ob := Lib.hid (Oa.out.below hbx)
          have Bb := Lib.hid (Ba.out.trans (hbx.mono Ba.out.size))
          obtain ⟨-, o0, o1, o2, o3⟩ := Oa.out.below hbx
          clear hbx
          go_wp2_with fail
          go_at_call 12
          refine (num_bad _ _ _ N K _ HFt.out HNk.out Tb.out.1.1).mono ?_
          rintro e wc ⟨v, rfl, hcx, hbx⟩
          have Tc := Lib.hid (Tb.out.below hbx)
          have Oc' := Lib.hid (Ob.out.below hbx)
          have Cc := Lib.hid hcx
          have Bc := Lib.hid (Bb.out.trans (hbx.mono Bb.out.size))
          clear hbx hcx o0 o1 o2 o3
          go_wp2_with fail
          go_at_call 18
          refine (code_any v [1] _ (HG.out.below Bc.out) Cc.out (by decide)).mono ?_
          rintro e wd ⟨rfl, hbx⟩
          have Td := Lib.hid (Tc.out.below hbx)
          have Bd := Lib.hid (Bc.out.trans (hbx.mono Bc.out.size))
          obtain ⟨-, o0, o1, o2, o3⟩ := Oc'.out.below hbx
          clear hbx
          go_wp2
          go_roundw
          case rel => exact ⟨k + 1, _, _, gg, gc, gs, by omega, by go_num, rfl, Td.out, HV.out, by omega, by have := HL.out; omega, Bd.out⟩
          case measure => simp [intOf]; omega
      · have z0 : (q == 0) = false := by simpa using q0
        by_cases q1 : q = 1
        · subst q1
          by_cases hSz : S.size ≤ 1024
          · have _u := hkI
            go_wp2_with fail
            generalize wr.alloc (.cells #[.int .i64 1, .int .i64 N, .int .i64 K, .string S] 31) = wo at TO BO OO ⊢
            generalize hO : wr.heap.size = O at OO ⊢
            clear hO
            go_at_call 15
            refine (reftext_ok _ _ _ S _ hSz TO.out.1.2.1 (by omega)).mono ?_
            rintro e wa ⟨rfl, ra, hWx, hrx, hfx⟩
            have Ta := Lib.hid (TO.out.w2 OO.out hWx hrx hfx)
            have Ba := Lib.hid (BO.out.trans ((hfx.below (Nat.le_of_lt TO.out.1.2.1.lt) (fun g hg => (TO.out.1.2.1.row_lt hg).1)).mono Z1.out))
            clear hWx hrx hfx
            go_wp2_with fail
            go_at_call 27
            refine (rcode_any none 0 0 [] 0 _ RF.none_ (by decide)).mono ?_
            rintro e wb ⟨rfl, hbx⟩
            have Tb := Lib.hid (Ta.out.1.below hbx)
            have Ob := Lib.hid (Ta.out.2.below hbx)
            have Bb := Lib.hid (Ba.out.trans (hbx.mono Ba.out.size))
            obtain ⟨-, o0, o1, o2, o3⟩ := Ta.out.2.below hbx
            clear hbx
            go_wp2_with fail
            go_at_call 14
            refine (text_ok _ _ _ S _ hSz Tb.out.1.1 (by omega)).mono ?_
            rintro e wc ⟨rfl, rc, hWx, hrx, hfx⟩
            have Tc := Lib.hid (Tb.out.w1 Ob.out hWx hrx hfx)
            have Bc := Lib.hid (Bb.out.trans (hfx.below (Nat.le_of_lt Tb.out.1.1.lt) (fun g hg => (Tb.out.1.1.row_lt hg).1)))
            clear hWx hrx hfx o0 o1 o2 o3
            go_wp2_with fail
            go_at_call 18
            refine (code_any _ [] _ (HG.out.below Bc.out) rfl (by decide)).mono ?_
            rintro e wd ⟨rfl, hbx⟩
            have Td := Lib.hid (Tc.out.1.below hbx)
            have Od := Lib.hid (Tc.out.2.below hbx)
            have Bd := Lib.hid (Bc.out.trans (hbx.mono Bc.out.size))
            obtain ⟨-, o0, o1, o2, o3⟩ := Tc.out.2.below hbx
            have hown := Td.out.2.1
            unfold Gd at hown
            have hbs := Td.out.2.1.lt
            clear hbx
            go_wp2_with (at_builtin; refine wpList_append_lies _ rfl (.tmp 74) (.tmp 76) 22 rfl (B2 + 1) 31 i0 _ 4 40 Tryd.underlying22 hi0 hz0 hz1 hz2 rfl (by decide) _ _ _ rfl (hown.alloc _) ⟨wd.heap.size, 0, none⟩ 1 1 (cells4 (1, N, K, S)) rfl rfl (World.news_of_block (cs := #[.int .i64 1, .int .i64 N, .int .i64 K, .string S]) (t := 31) (fr := (0, 0)) (heap_alloc_new wd _)) (cells4_one _) (by decide) (by unfold maxLen; omega) (by omega) (by simp; omega) (wd.heap.size + 1) (by simp) ?_; intro g' c' we hown2 hgrow hat hglt; (obtain ⟨hTe, hOe, hBe⟩ := Td.out.app Od.out hown2 hgrow hat); have Te := Lib.hid hTe; have Oe := Lib.hid hOe; have Be := Lib.hid (Bd.out.trans (hBe.mono (Nat.le_succ _))); (obtain ⟨-, x0, x1, x2, x3⟩ := hOe); clear hTe hBe hown2 hgrow hat hglt hown)
            go_roundw
            case rel =>
              refine ⟨k + 1, rc, ra, g', c', gs ++ [(1, N, K, S)], by omega, by go_num, by simp, ?_, ?_, by simp; omega, ?_, Be.out⟩
              · rw [bytesOf_snoc]; have h := Te.out; simp only [List.append_assoc] at h; exact h
              · intro y hy
                rcases List.mem_append.1 hy with h | h
                · exact HV.out y h
                · simp only [List.mem_cons, List.not_mem_nil, or_false] at h
                  subst h
                  exact .inr ⟨rfl, hSz⟩
              · rw [bytesOf_snoc, List.length_append]
                have hE : (encS (1, N, K, S)).length ≤ 1034 := by
                  show (leb (S.size : Int) 2 ++ nums S).length ≤ 1034; rw [List.length_append, leb_len _ 2 (by decide), nums_length]; omega
                have := HL.out; omega
            case measure => simp [intOf]; omega
          · have hSz : 1024 < S.size := by omega
            go_wp2_with fail
            generalize wr.alloc (.cells #[.int .i64 1, .int .i64 N, .int .i64 K, .string S] 31) = wo at TO BO OO ⊢
            generalize hO : wr.heap.size = O at OO ⊢
            clear hO
            go_at_call 15
            refine (reftext_bad _ _ _ S _ hSz TO.out.1.2.1).mono ?_
            rintro e wa ⟨Aa, ata, rfl, hRx, hbx⟩
            have Ta := Lib.hid (TO.out.below hbx)
            have Oa := Lib.hid (OO.out.below hbx)
            have Ra := Lib.hid hRx
            have Ba := Lib.hid (BO.out.trans (hbx.mono BO.out.size))
            clear hbx hRx
            go_wp2_with fail
            go_at_call 27
            refine (rcode_any Aa 1 1 [11] ata _ Ra.out (by decide)).mono ?_
            rintro e wb ⟨rfl, hbx⟩
            have Tb := Lib.hid (Ta.out.below hbx)
            have Ob := Lib.hid (Oa.out.below hbx)
            have Bb := Lib.hid (Ba.out.trans (hbx.mono Ba.out.size))
            obtain ⟨-, o0, o1, o2, o3⟩ := Oa.out.below hbx
            clear hbx
            go_wp2_with fail
            go_at_call 14
            refine (text_bad _ _ _ S _ hSz Tb.out.1.1).mono ?_
            rintro e wc ⟨v, rfl, hcx, hbx⟩
            have Tc := Lib.hid (Tb.out.below hbx)
            have Oc' := Lib.hid (Ob.out.below hbx)
            have Cc := Lib.hid hcx
            have Bc := Lib.hid (Bb.out.trans (hbx.mono Bb.out.size))
            clear hbx hcx o0 o1 o2 o3
            go_wp2_with fail
            go_at_call 18
            refine (code_any v [11] _ (HG.out.below Bc.out) Cc.out (by decide)).mono ?_
            rintro e wd ⟨rfl, hbx⟩
            have Td := Lib.hid (Tc.out.below hbx)
            have Bd := Lib.hid (Bc.out.trans (hbx.mono Bc.out.size))
            obtain ⟨-, o0, o1, o2, o3⟩ := Oc'.out.below hbx
            clear hbx
            go_wp2
            go_roundw
            case rel => exact ⟨k + 1, _, _, gg, gc, gs, by omega, by go_num, rfl, Td.out, HV.out, by omega, by have := HL.out; omega, Bd.out⟩
            case measure => simp [intOf]; omega
        · have z1 : (q == 1) = false := by simpa using q1
          go_wp2
          go_roundw
          case rel => exact ⟨k + 1, _, _, gg, gc, gs, by omega, by go_num, rfl, TO.out, HV.out, by omega, by have := HL.out; omega, BO.out⟩
          case measure => simp [intOf]; omega
    · have hd : decide ((k : Int) < (n : Int)) = false := by simp only [decide_eq_false_iff_not]; omega
      go_wp2_with fail
      go_at_call 16
      refine (bytes_any _ _ _ _ Tr.out.1.1).mono ?_
      rintro e wx ⟨rfl, rfl⟩
      generalize hSS : strOfNums (bytesOf gs) = SS
      have hSz0 : SS.size = (bytesOf gs).length := by rw [← hSS, strOfNums_size]
      have HSS := Lib.hid hSS
      have HSZ := Lib.hid hSz0
      have hSb : SS.size ≤ 10000000 := by omega
      clear hSS hSz0
      go_wp2_with fail
      go_at_call 19
      refine (newReader SS _).mono ?_
      rintro e w2 ⟨rfl, hR, hb, hz⟩
      have R2 := Lib.hid hR
      have T2 := Lib.hid (Tr.out.below hb)
      have B2x := Lib.hid (Br.out.trans (hb.mono Br.out.size))
      have ZRB := Lib.hid Br.out.size
      have QB1 := Lib.hid (Nat.ne_of_lt Tr.out.1.1.lt)
      have QB2 := Lib.hid (Nat.ne_of_lt Tr.out.1.2.1.lt)
      have QGG := Lib.hid (Nat.ne_of_lt Tr.out.2.1.lt.2)
      have QR1 := Lib.hid (show r1 ≠ some wr.heap.size from fun e => by have := (Tr.out.1.1.row_lt e).2; omega)
      have QR2 := Lib.hid (show r2 ≠ some wr.heap.size from fun e => by have := (Tr.out.1.2.1.row_lt e).2; omega)
      clear hR hb hz
      go_wp2
      generalize hRB : wr.heap.size = RB at R2 ZRB QB1 QB2 QGG QR1 QR2 ⊢
      clear hRB
      go_loopw [11] (fun i wj => ∃ j p : Nat, j ≤ gs.length ∧ i = .int .i64 j ∧ p = (bytesOf (gs.take j)).length ∧ Rdr wj RB SS p ∧ St wj w.heap.size B2 r1 r2 gg gc (bytesOf gs) (bytesOf gs) gs ∧ Below w.heap.size w wj) (fun i _ => gs.length - (intOf i).toNat)
      case atStart => exact ⟨0, 0, Nat.zero_le _, rfl, by simp [bytesOf], R2.out, T2.out, B2x.out⟩
      case round =>
        obtain ⟨j, p, hj, rfl, hp, hRj, hTj, hBj⟩ := hrel
        subst hp
        have Rr := Lib.hid hRj
        have Tj := Lib.hid hTj
        have Bj := Lib.hid hBj
        clear hRj hTj hBj
        by_cases hjl : j < gs.length
        · have HX0 : gs[j]? = some gs[j] := List.getElem?_eq_getElem hjl
          have hvx := HV.out gs[j] (List.getElem_mem hjl)
          generalize gs[j] = x at HX0 hvx
          obtain ⟨q, N, K, S⟩ := x
          have HX := Lib.hid HX0
          have HSP := Lib.hid (bytesOf_split gs j _ HX0)
          have HTS := Lib.hid (bytesOf_take_succ gs j _ HX0)
          have g0 := Tj.out.2.1.cell HX0 (i := 0) (u := .int .i64 q) rfl
          have g1 := Tj.out.2.1.cell HX0 (i := 1) (u := .int .i64 N) rfl
          have g2 := Tj.out.2.1.cell HX0 (i := 2) (u := .int .i64 K) rfl
          have g3 := Tj.out.2.1.cell HX0 (i := 3) (u := .string S) rfl
          simp only [Nat.add_zero] at g0
          have hjI : (j : Int) < (gs.length : Int) := by omega
          have hj0 : (0 : Int) ≤ (j : Int) := by omega
          have hjd : decide ((j : Int) < (gs.length : Int)) = true := by simp only [decide_eq_true_eq]; omega
          clear HX0
          rcases hvx with ⟨hq, hFt⟩ | ⟨hq, hSz⟩
          · simp only at hq hFt
            subst hq
            go_wp2_with fail
            go_at_call 20
            refine (rnum_at _ _ (bytesOf (gs.take j)) (bytesOf (gs.drop (j + 1))) N K SS _ (by rw [← HSS.out, HSP.out]; rfl) rfl hFt (byt_bytesOf _) (by omega) Rr.out).mono ?_
            rintro e wa ⟨rfl, hRa, hfa⟩
            have Ra := Lib.hid hRa
            have Ta := Lib.hid (Tj.out.reader hfa QB1.out QB2.out QGG.out QR1.out QR2.out)
            have Ba := Lib.hid (Bj.out.trans ((hfa.below (Nat.le_of_lt Rr.out.lt) (fun g hg => by cases hg)).mono ZRB.out))
            have a1 := Ta.out.2.1.cell HX.out (i := 1) (u := .int .i64 N) rfl
            have a3 := Ta.out.2.1.cell HX.out (i := 3) (u := .string S) rfl
            clear hRa hfa g0 g1 g2 g3
            go_wp2_with fail
            go_at_call 18
            refine (code_any _ [] _ (HG.out.below Ba.out) rfl (by decide)).mono ?_
            rintro e wb ⟨rfl, hbb⟩
            have Rb := Lib.hid (Ra.out.below hbb)
            have Tb := Lib.hid (Ta.out.below hbb)
            have Bb := Lib.hid (Ba.out.trans (hbb.mono Ba.out.size))
            clear hbb
            go_wp2
            go_roundw
            case rel => exact ⟨j + 1, (bytesOf (gs.take j)).length + K.toNat, by omega, by go_num, (by rw [HTS.out, List.length_append]; show _ = _ + (leb N K.toNat).length; rw [leb_len N K.toNat (by unfold Fits at hFt; omega)]), Rb.out, Tb.out, Bb.out⟩
            case measure => simp [intOf]; omega
          · simp only at hq hSz
            subst hq
            go_wp2_with fail
            go_at_call 22
            refine (rtext_at _ _ (bytesOf (gs.take j)) (bytesOf (gs.drop (j + 1))) S SS _ (by rw [← HSS.out, HSP.out]; simp only [encS, one_ne0, if_false, List.append_assoc]) rfl hSz (byt_bytesOf _) (by omega) Rr.out).mono ?_
            rintro e wa ⟨rfl, hRa, hfa⟩
            have Ra := Lib.hid hRa
            have Ta := Lib.hid (Tj.out.reader hfa QB1.out QB2.out QGG.out QR1.out QR2.out)
            have Ba := Lib.hid (Bj.out.trans ((hfa.below (Nat.le_of_lt Rr.out.lt) (fun g hg => by cases hg)).mono ZRB.out))
            have a1 := Ta.out.2.1.cell HX.out (i := 1) (u := .int .i64 N) rfl
            have a3 := Ta.out.2.1.cell HX.out (i := 3) (u := .string S) rfl
            clear hRa hfa g0 g1 g2 g3
            go_wp2_with fail
            go_at_call 18
            refine (code_any _ [] _ (HG.out.below Ba.out) rfl (by decide)).mono ?_
            rintro e wb ⟨rfl, hbb⟩
            have Rb := Lib.hid (Ra.out.below hbb)
            have Tb := Lib.hid (Ta.out.below hbb)
            have Bb := Lib.hid (Ba.out.trans (hbb.mono Ba.out.size))
            clear hbb
            go_wp2
            go_roundw
            case rel => exact ⟨j + 1, (bytesOf (gs.take j)).length + 2 + S.size, by omega, by go_num, (by rw [HTS.out, List.length_append]; show _ = _ + (leb (S.size : Int) 2 ++ nums S).length; rw [List.length_append, leb_len _ 2 (by decide), nums_length]; omega), Rb.out, Tb.out, Bb.out⟩
            case measure => simp [intOf]; omega
        · have hjd : decide ((j : Int) < (gs.length : Int)) = false := by simp only [decide_eq_false_iff_not]; omega
          obtain rfl : j = gs.length := by omega
          rw [List.take_length] at Rr
          have Tz0 := Tj
          obtain ⟨sA, sc, hsl⟩ := Tj.out.1.2.1.slice
          have hBd : Below wr.heap.size wr wr.drew := (Below.refl _ _).drew
          have Rz := Lib.hid (show Rdr wr.drew RB SS SS.size by rw [HSZ.out]; exact Rr.out.below hBd)
          have Tz := Lib.hid (Tj.out.below hBd)
          have Bz := Lib.hid Bj.out.drew
          have Kz := Lib.hid (show wr.drew.cell? ⟨B2, 0, none⟩ = some (.slice sA (bytesOf gs).length sc) from hsl)
          have hleq : ((SS.size : Int) == ((bytesOf gs).length : Int)) = true := by rw [HSZ.out]; simp
          clear hBd Tz0
          go_wp2_with fail
          go_region_held3 (fun w' => w'.cell? ⟨B2, 0, none⟩ = some (.slice sA (bytesOf gs).length sc))
            (first | go_keep | exact he5 | exact hd5 | exact hb5 | exact ha5)
            (first
              | (go_at_call 24; (with_reducible refine (end_ok _ SS _ Rz.out (by omega)).mono ?_); rintro e wa5 ⟨rfl, hbx⟩; have Ra5 := Lib.hid (Rz.out.below hbx); have Ta5 := Lib.hid (Tz.out.below hbx); have Ba5 := Lib.hid (Bz.out.trans (hbx.mono Bz.out.size)); (have ha5 : wa5.cell? ⟨B2, 0, none⟩ = some (.slice sA (bytesOf gs).length sc) := by rw [hbx.cell (p := ⟨B2, 0, none⟩) Tz.out.1.2.1.lt]; exact Kz.out); have Ka5 := Lib.hid ha5; clear hbx)
              | (go_at_call 18; (with_reducible refine (code_any .nilIface [] _ (HG.out.below Ba5.out) (chained_nil _) (by decide)).mono ?_); rintro e wb5 ⟨rfl, hbx⟩; have Rb5 := Lib.hid (Ra5.out.below hbx); have Tb5 := Lib.hid (Ta5.out.below hbx); have Bb5 := Lib.hid (Ba5.out.trans (hbx.mono Ba5.out.size)); (have hb5 : wb5.cell? ⟨B2, 0, none⟩ = some (.slice sA (bytesOf gs).length sc) := by rw [hbx.cell (p := ⟨B2, 0, none⟩) Ta5.out.1.2.1.lt]; exact Ka5.out); have Kb5 := Lib.hid hb5; have W5 := Lib.hid Tb5.out.1.1; clear hbx)
              | (go_at_call 26; (with_reducible refine (rat _ SS.size SS _ Rb5.out).mono ?_); rintro e wq ⟨rfl, rfl⟩)
              | (go_at_call 12; (with_reducible refine (num_bad _ _ _ 1 3 _ (not_fits3 1) (by decide) W5.out).mono ?_); rintro e wd5 ⟨v5, rfl, hcx, hbx⟩; have Rd5 := Lib.hid (Rb5.out.below hbx); have Td5 := Lib.hid (Tb5.out.below hbx); have Bd5 := Lib.hid (Bb5.out.trans (hbx.mono Bb5.out.size)); (have hd5 : wd5.cell? ⟨B2, 0, none⟩ = some (.slice sA (bytesOf gs).length sc) := by rw [hbx.cell (p := ⟨B2, 0, none⟩) Tb5.out.1.2.1.lt]; exact Kb5.out); have Kd5 := Lib.hid hd5; have C5 := Lib.hid hcx; clear hbx hcx)
              | (go_at_call 18; (with_reducible refine (code_any v5 [1] _ (HG.out.below Bd5.out) C5.out (by decide)).mono ?_); rintro e we5 ⟨rfl, hbx⟩; have Re5 := Lib.hid (Rd5.out.below hbx); have Te5 := Lib.hid (Td5.out.below hbx); have Be5 := Lib.hid (Bd5.out.trans (hbx.mono Bd5.out.size)); (have he5 : we5.cell? ⟨B2, 0, none⟩ = some (.slice sA (bytesOf gs).length sc) := by rw [hbx.cell (p := ⟨B2, 0, none⟩) Td5.out.1.2.1.lt]; exact Kd5.out); have Ke5 := Lib.hid he5; clear hbx)
              | fail)
          go_wp2
          go_ret
          exact ⟨rfl, Be5.out⟩
end Go.Proofs.YtionhkcbobddjaaDoor
