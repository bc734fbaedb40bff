/-
  ShelfVersions, walked: it answers true, and nothing that was there turns.
-/
import Derived.Test.YtacdbfaoeioflaaGreatDoorSolo2
import Derived.BigQuiet
import Derived.BigRegion
import Derived.BigGuard
import Derived.BigCall
import Derived.Deep.RegionHeld
import Derived.Deep.RegionWith
namespace Go.Proofs.YtacdbfaoeioflaaGreatDoor
open Go.RowKit

theorem get_cases (L : Lay) (id : Int) : (getL L id = none ∧ getB L id = Bk.zero ∧ getE L id = 3) ∨ ∃ c, getL L id = some c ∧ getB L id = c ∧ getE L id = 0 := by
  unfold getB getE
  cases h : getL L id with
  | none => exact .inl ⟨rfl, rfl, rfl⟩
  | some c => exact .inr ⟨c, rfl, rfl, rfl⟩
theorem put_newer {s : St} {L : Lay} {b c : Bk} (h : putE L s b = 0) (hc : getL L b.id = some c) : c.ver < b.ver := by
  obtain ⟨-, h1, -⟩ := putY_zero h
  obtain ⟨-, -, h3, -⟩ := preE_zero h1
  unfold newer at h3
  rw [hc] at h3
  simpa using h3
theorem put_same9 {s : St} {L : Lay} {n k : Nat} (h : Sound s L n k) {b : Bk} (hp : putE L s b = 0) : getB (putY L s b) b.id = b ∧ getE (putY L s b) b.id = 0 := by
  unfold getB getE
  rw [put_get h.fit.good hp, if_pos rfl]
  exact ⟨rfl, rfl⟩
theorem put_lit {s : St} {L : Lay} {n k : Nat} (h : Sound s L n k) (b : Bk) : putE L s b = 0 ∨ putE L s b = 1 ∨ putE L s b = 2 ∨ putE L s b = 5 ∨ putE L s b = 11 := by
  rw [(h.live.put (by rw [h.len, h.rest.len]) b).1]
  unfold preE refE
  repeat' split
  all_goals first | omega | (rename_i h'; cases h')
set_option maxRecDepth 100000 in
set_option maxHeartbeats 4000000 in
theorem vers_in (A : Option Addr) (n c : Nat) (bs : Nat → Bk) (w : World) (hT : Tab w) (hS : BIn w A n bs) (hn : n ≤ 60) :
    Calls Tryz.prog 5 #[.slice A n c] w fun e w' => e = .returned (.bool true) ∧ Below w.heap.size w w' := by
  have HB := Lib.hid hS
  have HT := Lib.hid hT
  have HS0 := Lib.hid (shown_any hT)
  have HSh := Lib.hid (fun w (T : Tab w) => shown_any (w := w) T)
  have hnI : ¬ (60 : Int) < (n : Int) := by omega
  clear hS hT
  go_enter Tryz.func5, Tryz.ntmps5
  go_wp2_with fail
  go_at_call 8
  refine HS0.out.mono ?_
  rintro e w1 ⟨rfl, k1⟩
  have B1 := Lib.hid k1
  clear k1 HS0
  go_wp2_with fail
  go_at_call 9
  refine (plo_new (w0 := w) (O := fun _ => False) B1.out 10 (fun _ h => h.elim)).mono ?_
  rintro e w2 ⟨pb, rfl, k1, -⟩
  have P2 := Lib.hid k1
  clear k1
  go_wp2_with fail
  go_at_call 11
  refine (plo_open P2.out HT.out (Good.fresh 10) rfl (n := 10) (by simp [fresh, size0])).mono ?_
  rintro e w3 ⟨sb, mb, rfl, k1, -⟩
  have h10 : Sound (fresh 10) (List.replicate 10 none) 10 0 := Sound.fresh 10
  obtain ⟨o1, o2⟩ := h10.opens
  rw [o1, o2] at k1
  have S3 := Lib.hid k1
  have D3 := Lib.hid h10
  clear k1 o1 o2 h10
  go_wp2
  go_loopw [5] (fun iv wr => ∃ (i : Nat) (s : St) (L : Lay) (k : Nat), i ≤ n ∧ iv = .int .i64 i ∧ Sound s L 10 k ∧ k ≤ 4 * i ∧ Solo w wr sb mb pb s L [] false (fun _ => False)) (fun iv _ => n - (RowKit.intOf iv).toNat)
  case atStart => exact ⟨0, _, _, 0, Nat.zero_le _, rfl, D3.out, Nat.zero_le _, S3.out⟩
  case round =>
    obtain ⟨i, s, L, k, hi, rfl, hD, hk, hS⟩ := hrel
    have HD := Lib.hid hD
    have HS := Lib.hid hS
    clear hD hS B1 P2 S3 D3
    by_cases hlt : i < n
    · obtain ⟨g, off, rfl, hc⟩ := HB.out.cells HS.out.bel hlt
      have hid := Lib.hid (HB.out.id i hlt)
      have HC := Lib.hid (fun w' (h : Below w.heap.size w w') => by obtain ⟨g', off', e, h'⟩ := HB.out.cells h hlt; cases e; exact h')
      obtain ⟨b, hb⟩ : ∃ b, bs i = b := ⟨_, rfl⟩
      rw [hb] at hid hc HC
      have hlI : (i : Int) < (n : Int) := by omega
      have hiI : (0 : Int) ≤ (i : Int) := by omega
      clear hb HB
      obtain ⟨q0, q1, q2⟩ := hc
      by_cases hd : 100 < b.data.size
      · have hdI : (100 : Int) < (b.data.size : Int) := by omega
        clear hd
        go_wp2_with fail
        go_at_call 8
        refine (HSh.out _ (HS.out.tab HT.out)).mono ?_
        rintro e w4 ⟨rfl, k1⟩
        have B4 := Lib.hid (HS.out.bel.trans (k1.mono HS.out.bel.size))
        clear k1
        go_wp2
        go_ret
        exact ⟨rfl, B4.out⟩
      · have hdI : ¬ (100 : Int) < (b.data.size : Int) := by omega
        clear hd HSh
        go_wp2_with fail
        go_at_call 27
        refine (so_get HS.out hid.out).mono ?_
        rintro e w4 ⟨rfl, k1⟩
        obtain ⟨old, hold⟩ : ∃ x, getB L b.id = x := ⟨_, rfl⟩
        rw [hold]
        have kx : Below w4.heap.size w4 (w4.alloc (.cells old.cells 37)) := (Below.refl _ _).alloc (Nat.le_refl _) _
        have BR4 := Lib.hid (k1.trans (kx.mono k1.size))
        have X4 := Lib.hid (AB.fresh w4 old)
        have S4 := Lib.hid (HS.out.below BR4.out).1
        have HO := Lib.hid hold
        have HW4 := Lib.hid k1.size
        clear k1 kx q0 q1 q2 hold
        obtain ⟨q0, q1, q2⟩ := HC.out _ S4.out.bel
        go_wp2_with fail
        generalize w4.alloc (.cells #[.int .i64 old.id, .int .i64 old.ver, .string old.data] 37) = w5 at *
        go_at_call 30
        refine (so_list S4.out).mono ?_
        rintro e w6 ⟨v6, rfl, k1, k2⟩
        have V6 := Lib.hid k1
        have X6 := Lib.hid (X4.out.below k2)
        have BR6 := Lib.hid (BR4.out.trans (k2.mono BR4.out.size))
        have S6 := Lib.hid (HS.out.news BR6.out)
        have HW5 := Lib.hid (BR4.out.size)
        have X4lt := Lib.hid X6.out.lt
        clear k1 k2 q0 q1 q2 X4 BR4 S4
        obtain ⟨q0, q1, q2⟩ := HC.out _ S6.out.bel
        go_wp2_with fail
        go_at_call 13
        refine Calls.mono (show Calls Tryz.prog 13 #[.pointer (some ⟨sb, 0, none⟩), .agg #[.int .i64 b.id, .int .i64 b.ver, .string b.data]] w6 _ from so_put S6.out HT.out HD.out.rest (by omega) (fun h => by cases h) HD.out.len hid.out) ?_
        rintro e w7 ⟨rfl, k1, k2⟩
        have hnl : lostP false (putE L s b) = false := by unfold lostP; rw [decide_eq_false (put_e HD.out b)]; rfl
        rw [hnl] at k1
        have S7 := Lib.hid k1
        have X7 := Lib.hid (X6.out.keptO k2 (.inr ⟨HW4.out, X4lt.out⟩))
        have V7 := Lib.hid (V6.out.kept fun g' hg => k2 g' (.inr ⟨Nat.le_trans HW5.out (V6.out.lt hg).1, (V6.out.lt hg).2⟩))
        have HE := Lib.hid (put_e HD.out b)
        have D7 := Lib.hid (HD.out.put b)
        clear k1 k2 hnl q0 q1 q2 S6 X6 V6 HW4 HW5 X4lt BR6
        obtain ⟨q0, q1, q2⟩ := HC.out _ S7.out.bel
        go_wp2_with fail
        go_at_call 27
        refine (so_get S7.out hid.out).mono ?_
        rintro e w8 ⟨rfl, k1⟩
        obtain ⟨now, hnow⟩ : ∃ x, getB (putY L s b) b.id = x := ⟨_, rfl⟩
        rw [hnow]
        have kx : Below w8.heap.size w8 (w8.alloc (.cells now.cells 37)) := (Below.refl _ _).alloc (Nat.le_refl _) _
        have BR8 := k1.trans (kx.mono k1.size)
        have X8 := Lib.hid (X7.out.below BR8)
        have V8 := Lib.hid (OwnsB.below BR8 V7.out)
        have S8 := Lib.hid (S7.out.below BR8).1
        have Y8 := Lib.hid (AB.fresh w8 now)
        have HNow := Lib.hid hnow
        clear k1 kx q0 q1 q2 hnow X7 V7 S7 BR8
        obtain ⟨q0, q1, q2⟩ := HC.out _ S8.out.bel
        obtain ⟨x0, x1, x2⟩ := X8.out.all
        obtain ⟨y0, y1, y2⟩ := Y8.out.all
        obtain ⟨pe, hpe⟩ : ∃ x, putE L s b = x := ⟨_, rfl⟩
        rw [hpe]
        go_wp2_with fail
        generalize w8.alloc (.cells #[.int .i64 now.id, .int .i64 now.ver, .string now.data] 37) = w9 at *
        by_cases hp : pe = 0
        · obtain ⟨g1, g2⟩ := put_same9 HD.out (hpe.trans hp)
          obtain rfl : now = b := HNow.out.symm.trans g1
          rw [g2]
          subst hp
          have hne := bk_neq now now
          rw [decide_eq_true rfl] at hne
          rcases get_cases L now.id with ⟨e1, e2, e3⟩ | ⟨o, e1, e2, e3⟩
          · rw [e3]
            clear e1 e2 e3 g1 g2
            go_quiet (fail)
            go_wp2_with fail
            go_quiet (fail)
            go_wp2_with fail
            go_roundw
            case rel => exact ⟨i + 1, _, _, k + 4, by omega, by go_num, D7.out, by omega, (S8.out.below (below_drewN (Below.refl _ _) _)).1.less (fun _ h => h.elim)⟩
            case measure => simp only [RowKit.intOf]; omega

          · have hv := put_newer hpe e1
            obtain rfl : old = o := HO.out.symm.trans e2
            rw [e3]
            have hv1 : decide (now.ver ≤ old.ver) = false := decide_eq_false (by omega)
            have hv2 : decide (now.ver ≤ old.ver) = false := decide_eq_false (by omega)
            clear e1 e2 e3 g1 g2 hv
            go_quiet (fail)
            go_wp2_with fail
            go_quiet (fail)
            go_wp2_with fail
            go_roundw
            case rel => exact ⟨i + 1, _, _, k + 4, by omega, by go_num, D7.out, by omega, (S8.out.below (below_drewN (Below.refl _ _) _)).1.less (fun _ h => h.elim)⟩
            case measure => simp only [RowKit.intOf]; omega

        · have hY := putY_other (L := L) (s := s) (b := b) (by rw [hpe]; exact hp)
          rw [hY] at S8 D7 ⊢
          clear hpe hY
          have hp0 : (pe == 0) = false := by simpa using hp
          have hp1 : (pe != 0) = true := by simpa using hp
          have BD := Lib.hid (show Below w9.heap.size w9 w9.drew from (Below.refl _ _).drew)
          have SD := Lib.hid (S8.out.below BD.out).1
          have VD := Lib.hid (OwnsB.below BD.out V8.out)
          have hlen : (listL L).length ≤ 100000 := by rw [list_length SD.out.good]; have := cnt_le L; have := SD.out.good.hi; omega
          clear q0 q1 q2 x0 x1 x2 y0 y1 y2
          have HH := Lib.hid (show ∀ w', Below w9.heap.size w9 w' → (w'.cell? ⟨w8.heap.size, 0, none⟩ = some (.int .i64 now.id) ∧ w'.cell? ⟨w8.heap.size, 1, none⟩ = some (.int .i64 now.ver) ∧ w'.cell? ⟨w8.heap.size, 2, none⟩ = some (.string now.data)) ∧ (w'.cell? ⟨g, off + i * 3, none⟩ = some (.int .i64 b.id) ∧ w'.cell? ⟨g, off + i * 3 + 1, none⟩ = some (.int .i64 b.ver) ∧ w'.cell? ⟨g, off + i * 3 + 2, none⟩ = some (.string b.data)) ∧ w'.cell? ⟨w4.heap.size, 1, none⟩ = some (.int .i64 old.ver) from fun w' hw => by
            obtain ⟨h1, h2, h3⟩ := HC.out _ (S8.out.below hw).1.bel
            exact ⟨(Y8.out.below hw).all, ⟨h1, h2, h3⟩, (X8.out.below hw).all.2.1⟩)
          go_wp2_with fail
          refine wp_region_held_drew (S := fun _ => True) (by kernel_rfl) trivial ?_
          intro hHeld
          refine wpAnyH_take (i := 0) (oi := { dst := some 69, op := Op.move (Operand.tmp 9), type := 30, pos := "law.go:185", after := #[], guard := none }) (v := ?v0) rfl (by kernel_rfl) (by kernel_rfl) (by kernel_rfl) (fun _ _ _ h => h) (Or.inl ⟨by rfl, ?h0⟩) (by assumption) ?r0
          case h0 => ((intro w' hSw; (try dsimp only at hSw)); go_simp; try (with_reducible rfl))
          (try simp only [Act.put, List.setIfInBounds_toArray, List.set_cons_zero, List.set_cons_succ])
          refine wpAnyH_take (i := 1) (oi := { dst := some 70, op := Op.binOp BinOp.eql 30 (Operand.tmp 69) (Operand.const (Value.int IntKind.i64 0)) 30, type := 4, pos := "law.go:185", after := #[{ on := 0, ground := Ground.data }], guard := none }) (v := ?v1) rfl (by kernel_rfl) (by kernel_rfl) (by kernel_rfl) (fun _ _ _ h => h) (Or.inl ⟨by rfl, ?h1⟩) (by assumption) ?r1
          case h1 => ((intro w' hSw; (try dsimp only at hSw)); go_simp; try (with_reducible rfl))
          (try simp only [Act.put, List.setIfInBounds_toArray, List.set_cons_zero, List.set_cons_succ])
          refine wpAnyH_take (i := 2) (oi := { dst := some 71, op := Op.move (Operand.tmp 70), type := 4, pos := "law.go:185", after := #[{ on := 1, ground := Ground.data }], guard := none }) (v := ?v2) rfl (by kernel_rfl) (by kernel_rfl) (by kernel_rfl) (fun _ _ _ h => h) (Or.inl ⟨by rfl, ?h2⟩) (by assumption) ?r2
          case h2 => ((intro w' hSw; (try dsimp only at hSw)); go_simp; try (with_reducible rfl))
          (try simp only [Act.put, List.setIfInBounds_toArray, List.set_cons_zero, List.set_cons_succ])
          refine wpAnyH_take (i := 3) (oi := { dst := some 72, op := Op.move (Operand.tmp 11), type := 30, pos := "law.go:185", after := #[{ on := 2, ground := Ground.guard }], guard := some (2, true) }) (v := undef) rfl (by kernel_rfl) (by kernel_rfl) (by kernel_rfl) (fun _ _ _ h => h) (Or.inr ⟨by rfl, rfl⟩) (by assumption) ?_
          (try simp only [Act.put, List.setIfInBounds_toArray, List.set_cons_zero, List.set_cons_succ])
          refine wpAnyH_take (i := 4) (oi := { dst := some 73, op := Op.binOp BinOp.neq 30 (Operand.tmp 72) (Operand.const (Value.int IntKind.i64 0)) 30, type := 4, pos := "law.go:185", after := #[{ on := 3, ground := Ground.data }, { on := 2, ground := Ground.guard }], guard := some (2, true) }) (v := undef) rfl (by kernel_rfl) (by kernel_rfl) (by kernel_rfl) (fun _ _ _ h => h) (Or.inr ⟨by rfl, rfl⟩) (by assumption) ?_
          (try simp only [Act.put, List.setIfInBounds_toArray, List.set_cons_zero, List.set_cons_succ])
          refine wpAnyH_take (i := 5) (oi := { dst := some 74, op := Op.move (Operand.tmp 73), type := 4, pos := "law.go:185", after := #[{ on := 4, ground := Ground.data }, { on := 2, ground := Ground.chain }, { on := 2, ground := Ground.guard }], guard := some (2, true) }) (v := undef) rfl (by kernel_rfl) (by kernel_rfl) (by kernel_rfl) (fun _ _ _ h => h) (Or.inr ⟨by rfl, rfl⟩) (by assumption) ?_
          (try simp only [Act.put, List.setIfInBounds_toArray, List.set_cons_zero, List.set_cons_succ])
          refine wpAnyH_take (i := 6) (oi := { dst := some 75, op := Op.load 37 (Operand.tmp 10), type := 37, pos := "law.go:185", after := #[{ on := 5, ground := Ground.guard }], guard := some (5, false) }) (v := undef) rfl (by kernel_rfl) (by kernel_rfl) (by kernel_rfl) (fun _ _ _ h => h) (Or.inr ⟨by rfl, rfl⟩) (by assumption) ?_
          (try simp only [Act.put, List.setIfInBounds_toArray, List.set_cons_zero, List.set_cons_succ])
          refine wpAnyH_take (i := 7) (oi := { dst := some 76, op := Op.move (Operand.tmp 0), type := 50, pos := "law.go:185", after := #[{ on := 5, ground := Ground.guard }], guard := some (5, false) }) (v := undef) rfl (by kernel_rfl) (by kernel_rfl) (by kernel_rfl) (fun _ _ _ h => h) (Or.inr ⟨by rfl, rfl⟩) (by assumption) ?_
          (try simp only [Act.put, List.setIfInBounds_toArray, List.set_cons_zero, List.set_cons_succ])
          refine wpAnyH_take (i := 8) (oi := { dst := some 77, op := Op.move (Operand.tmp 5), type := 3, pos := "law.go:185", after := #[{ on := 5, ground := Ground.guard }], guard := some (5, false) }) (v := undef) rfl (by kernel_rfl) (by kernel_rfl) (by kernel_rfl) (fun _ _ _ h => h) (Or.inr ⟨by rfl, rfl⟩) (by assumption) ?_
          (try simp only [Act.put, List.setIfInBounds_toArray, List.set_cons_zero, List.set_cons_succ])
          refine wpAnyH_take (i := 9) (oi := { dst := some 78, op := Op.indexAddr 50 (Operand.tmp 76) (Operand.tmp 77), type := 0, pos := "law.go:185", after := #[{ on := 7, ground := Ground.data }, { on := 8, ground := Ground.data }, { on := 5, ground := Ground.guard }], guard := some (5, false) }) (v := undef) rfl (by kernel_rfl) (by kernel_rfl) (by kernel_rfl) (fun _ _ _ h => h) (Or.inr ⟨by rfl, rfl⟩) (by assumption) ?_
          (try simp only [Act.put, List.setIfInBounds_toArray, List.set_cons_zero, List.set_cons_succ])
          refine wpAnyH_take (i := 10) (oi := { dst := some 79, op := Op.load 37 (Operand.tmp 78), type := 37, pos := "law.go:185", after := #[{ on := 9, ground := Ground.data }, { on := 5, ground := Ground.guard }], guard := some (5, false) }) (v := undef) rfl (by kernel_rfl) (by kernel_rfl) (by kernel_rfl) (fun _ _ _ h => h) (Or.inr ⟨by rfl, rfl⟩) (by assumption) ?_
          (try simp only [Act.put, List.setIfInBounds_toArray, List.set_cons_zero, List.set_cons_succ])
          refine wpAnyH_take (i := 11) (oi := { dst := some 80, op := Op.binOp BinOp.neq 37 (Operand.tmp 75) (Operand.tmp 79) 37, type := 4, pos := "law.go:185", after := #[{ on := 6, ground := Ground.data }, { on := 10, ground := Ground.data }, { on := 5, ground := Ground.guard }], guard := some (5, false) }) (v := undef) rfl (by kernel_rfl) (by kernel_rfl) (by kernel_rfl) (fun _ _ _ h => h) (Or.inr ⟨by rfl, rfl⟩) (by assumption) ?_
          (try simp only [Act.put, List.setIfInBounds_toArray, List.set_cons_zero, List.set_cons_succ])
          refine wpAnyH_take (i := 12) (oi := { dst := some 81, op := Op.pick (Operand.tmp 74) (Operand.const (Value.bool true)) (Operand.tmp 80), type := 4, pos := "law.go:185", after := #[{ on := 5, ground := Ground.data }, { on := 11, ground := Ground.data }, { on := 2, ground := Ground.guard }], guard := some (2, true) }) (v := undef) rfl (by kernel_rfl) (by kernel_rfl) (by kernel_rfl) (fun _ _ _ h => h) (Or.inr ⟨by rfl, rfl⟩) (by assumption) ?_
          (try simp only [Act.put, List.setIfInBounds_toArray, List.set_cons_zero, List.set_cons_succ])
          refine wpAnyH_take (i := 13) (oi := { dst := some 82, op := Op.move (Operand.tmp 81), type := 4, pos := "law.go:185", after := #[{ on := 12, ground := Ground.data }, { on := 5, ground := Ground.chain }, { on := 2, ground := Ground.guard }], guard := some (2, true) }) (v := undef) rfl (by kernel_rfl) (by kernel_rfl) (by kernel_rfl) (fun _ _ _ h => h) (Or.inr ⟨by rfl, rfl⟩) (by assumption) ?_
          (try simp only [Act.put, List.setIfInBounds_toArray, List.set_cons_zero, List.set_cons_succ])
          refine wpAnyH_take (i := 14) (oi := { dst := some 83, op := Op.move (Operand.tmp 7), type := 30, pos := "law.go:185", after := #[{ on := 13, ground := Ground.guard }], guard := some (13, false) }) (v := undef) rfl (by kernel_rfl) (by kernel_rfl) (by kernel_rfl) (fun _ _ _ h => h) (Or.inr ⟨by rfl, rfl⟩) (by assumption) ?_
          (try simp only [Act.put, List.setIfInBounds_toArray, List.set_cons_zero, List.set_cons_succ])
          refine wpAnyH_take (i := 15) (oi := { dst := some 84, op := Op.binOp BinOp.eql 30 (Operand.tmp 83) (Operand.const (Value.int IntKind.i64 0)) 30, type := 4, pos := "law.go:185", after := #[{ on := 14, ground := Ground.data }, { on := 13, ground := Ground.guard }], guard := some (13, false) }) (v := undef) rfl (by kernel_rfl) (by kernel_rfl) (by kernel_rfl) (fun _ _ _ h => h) (Or.inr ⟨by rfl, rfl⟩) (by assumption) ?_
          (try simp only [Act.put, List.setIfInBounds_toArray, List.set_cons_zero, List.set_cons_succ])
          refine wpAnyH_take (i := 16) (oi := { dst := some 85, op := Op.move (Operand.tmp 84), type := 4, pos := "law.go:185", after := #[{ on := 15, ground := Ground.data }, { on := 13, ground := Ground.chain }, { on := 13, ground := Ground.guard }], guard := some (13, false) }) (v := undef) rfl (by kernel_rfl) (by kernel_rfl) (by kernel_rfl) (fun _ _ _ h => h) (Or.inr ⟨by rfl, rfl⟩) (by assumption) ?_
          (try simp only [Act.put, List.setIfInBounds_toArray, List.set_cons_zero, List.set_cons_succ])
          refine wpAnyH_take (i := 17) (oi := { dst := some 86, op := Op.fieldAddr 37 (Operand.tmp 6) 1, type := 0, pos := "law.go:185", after := #[{ on := 16, ground := Ground.guard }], guard := some (16, true) }) (v := undef) rfl (by kernel_rfl) (by kernel_rfl) (by kernel_rfl) (fun _ _ _ h => h) (Or.inr ⟨by rfl, rfl⟩) (by assumption) ?_
          (try simp only [Act.put, List.setIfInBounds_toArray, List.set_cons_zero, List.set_cons_succ])
          refine wpAnyH_take (i := 18) (oi := { dst := some 87, op := Op.load 3 (Operand.tmp 86), type := 3, pos := "law.go:185", after := #[{ on := 17, ground := Ground.data }, { on := 16, ground := Ground.guard }], guard := some (16, true) }) (v := undef) rfl (by kernel_rfl) (by kernel_rfl) (by kernel_rfl) (fun _ _ _ h => h) (Or.inr ⟨by rfl, rfl⟩) (by assumption) ?_
          (try simp only [Act.put, List.setIfInBounds_toArray, List.set_cons_zero, List.set_cons_succ])
          refine wpAnyH_take (i := 19) (oi := { dst := some 88, op := Op.fieldAddr 37 (Operand.tmp 10) 1, type := 0, pos := "law.go:185", after := #[{ on := 16, ground := Ground.guard }], guard := some (16, true) }) (v := undef) rfl (by kernel_rfl) (by kernel_rfl) (by kernel_rfl) (fun _ _ _ h => h) (Or.inr ⟨by rfl, rfl⟩) (by assumption) ?_
          (try simp only [Act.put, List.setIfInBounds_toArray, List.set_cons_zero, List.set_cons_succ])
          refine wpAnyH_take (i := 20) (oi := { dst := some 89, op := Op.load 3 (Operand.tmp 88), type := 3, pos := "law.go:185", after := #[{ on := 19, ground := Ground.data }, { on := 16, ground := Ground.guard }], guard := some (16, true) }) (v := undef) rfl (by kernel_rfl) (by kernel_rfl) (by kernel_rfl) (fun _ _ _ h => h) (Or.inr ⟨by rfl, rfl⟩) (by assumption) ?_
          (try simp only [Act.put, List.setIfInBounds_toArray, List.set_cons_zero, List.set_cons_succ])
          refine wpAnyH_take (i := 21) (oi := { dst := some 90, op := Op.binOp BinOp.geq 3 (Operand.tmp 87) (Operand.tmp 89) 3, type := 4, pos := "law.go:185", after := #[{ on := 18, ground := Ground.data }, { on := 20, ground := Ground.data }, { on := 16, ground := Ground.guard }], guard := some (16, true) }) (v := undef) rfl (by kernel_rfl) (by kernel_rfl) (by kernel_rfl) (fun _ _ _ h => h) (Or.inr ⟨by rfl, rfl⟩) (by assumption) ?_
          (try simp only [Act.put, List.setIfInBounds_toArray, List.set_cons_zero, List.set_cons_succ])
          refine wpAnyH_take (i := 22) (oi := { dst := some 91, op := Op.pick (Operand.tmp 85) (Operand.tmp 90) (Operand.const (Value.bool false)), type := 4, pos := "law.go:185", after := #[{ on := 16, ground := Ground.data }, { on := 21, ground := Ground.data }, { on := 13, ground := Ground.guard }], guard := some (13, false) }) (v := undef) rfl (by kernel_rfl) (by kernel_rfl) (by kernel_rfl) (fun _ _ _ h => h) (Or.inr ⟨by rfl, rfl⟩) (by assumption) ?_
          (try simp only [Act.put, List.setIfInBounds_toArray, List.set_cons_zero, List.set_cons_succ])
          refine wpAnyH_take (i := 23) (oi := { dst := some 92, op := Op.pick (Operand.tmp 82) (Operand.const (Value.bool true)) (Operand.tmp 91), type := 4, pos := "law.go:185", after := #[{ on := 13, ground := Ground.data }, { on := 22, ground := Ground.data }, { on := 2, ground := Ground.guard }], guard := some (2, true) }) (v := undef) rfl (by kernel_rfl) (by kernel_rfl) (by kernel_rfl) (fun _ _ _ h => h) (Or.inr ⟨by rfl, rfl⟩) (by assumption) ?_
          (try simp only [Act.put, List.setIfInBounds_toArray, List.set_cons_zero, List.set_cons_succ])
          refine wpAnyH_take (i := 24) (oi := { dst := some 93, op := Op.pick (Operand.tmp 71) (Operand.tmp 92) (Operand.const (Value.bool false)), type := 4, pos := "law.go:185", after := #[{ on := 2, ground := Ground.data }, { on := 23, ground := Ground.data }], guard := none }) (v := ?v24) rfl (by kernel_rfl) (by kernel_rfl) (by kernel_rfl) (fun _ _ _ h => h) (Or.inl ⟨by rfl, ?h24⟩) (by assumption) ?r24
          case h24 => ((intro w' hSw; (try dsimp only at hSw)); go_simp; try (with_reducible rfl))
          (try simp only [Act.put, List.setIfInBounds_toArray, List.set_cons_zero, List.set_cons_succ])
          refine wpAnyH_take (i := 25) (oi := { dst := some 94, op := Op.move (Operand.tmp 93), type := 4, pos := "law.go:185", after := #[{ on := 24, ground := Ground.data }, { on := 16, ground := Ground.chain }], guard := none }) (v := ?v25) rfl (by kernel_rfl) (by kernel_rfl) (by kernel_rfl) (fun _ _ _ h => h) (Or.inl ⟨by rfl, ?h25⟩) (by assumption) ?r25
          case h25 => ((intro w' hSw; (try dsimp only at hSw)); go_simp; try (with_reducible rfl))
          (try simp only [Act.put, List.setIfInBounds_toArray, List.set_cons_zero, List.set_cons_succ])
          refine wpAnyH_take (i := 26) (oi := { dst := some 95, op := Op.move (Operand.tmp 9), type := 30, pos := "law.go:185", after := #[{ on := 25, ground := Ground.guard }], guard := some (25, false) }) (v := ?v26) rfl (by kernel_rfl) (by kernel_rfl) (by kernel_rfl) (fun _ _ _ h => h) (Or.inl ⟨by rfl, ?h26⟩) (by assumption) ?r26
          case h26 => ((intro w' hSw; (try dsimp only at hSw)); go_simp; try (with_reducible rfl))
          (try simp only [Act.put, List.setIfInBounds_toArray, List.set_cons_zero, List.set_cons_succ])
          refine wpAnyH_take (i := 27) (oi := { dst := some 96, op := Op.binOp BinOp.neq 30 (Operand.tmp 95) (Operand.const (Value.int IntKind.i64 0)) 30, type := 4, pos := "law.go:185", after := #[{ on := 26, ground := Ground.data }, { on := 25, ground := Ground.guard }], guard := some (25, false) }) (v := ?v27) rfl (by kernel_rfl) (by kernel_rfl) (by kernel_rfl) (fun _ _ _ h => h) (Or.inl ⟨by rfl, ?h27⟩) (by assumption) ?r27
          case h27 => ((intro w' hSw; (try dsimp only at hSw)); go_simp; try (with_reducible rfl))
          (try simp only [Act.put, List.setIfInBounds_toArray, List.set_cons_zero, List.set_cons_succ])
          refine wpAnyH_take (i := 28) (oi := { dst := some 97, op := Op.move (Operand.tmp 96), type := 4, pos := "law.go:185", after := #[{ on := 27, ground := Ground.data }, { on := 25, ground := Ground.chain }, { on := 25, ground := Ground.guard }], guard := some (25, false) }) (v := ?v28) rfl (by kernel_rfl) (by kernel_rfl) (by kernel_rfl) (fun _ _ _ h => h) (Or.inl ⟨by rfl, ?h28⟩) (by assumption) ?r28
          case h28 => ((intro w' hSw; (try dsimp only at hSw)); go_simp; try (with_reducible rfl))
          (try simp only [Act.put, List.setIfInBounds_toArray, List.set_cons_zero, List.set_cons_succ])
          refine wpAnyH_take (i := 29) (oi := { dst := some 98, op := Op.move (Operand.tmp 3), type := 29, pos := "law.go:185", after := #[{ on := 28, ground := Ground.guard }], guard := some (28, true) }) (v := ?v29) rfl (by kernel_rfl) (by kernel_rfl) (by kernel_rfl) (fun _ _ _ h => h) (Or.inl ⟨by rfl, ?h29⟩) (by assumption) ?r29
          case h29 => ((intro w' hSw; (try dsimp only at hSw)); go_simp; try (with_reducible rfl))
          (try simp only [Act.put, List.setIfInBounds_toArray, List.set_cons_zero, List.set_cons_succ])
          refine wpAnyH_take (i := 31) (oi := { dst := some 100, op := Op.move (Operand.tmp 8), type := 50, pos := "law.go:185", after := #[{ on := 28, ground := Ground.guard }], guard := some (28, true) }) (v := ?v31) rfl (by kernel_rfl) (by kernel_rfl) (by kernel_rfl) (fun _ _ _ h => h) (Or.inl ⟨by rfl, ?h31⟩) (by assumption) ?r31
          case h31 => ((intro w' hSw; (try dsimp only at hSw)); go_simp; try (with_reducible rfl))
          (try simp only [Act.put, List.setIfInBounds_toArray, List.set_cons_zero, List.set_cons_succ])
          refine wpAnyH_ready (rs := [30]) (by kernel_rfl) (by simp) ?_
          refine AllReadyH.cons rfl (fun K' hK => ?_) AllReadyH.nil
          go_simp
          (go_at_call 30; with_reducible refine (so_list SD.out).mono ?_; rintro e w10 ⟨v10, rfl, k1, k2⟩; have VA := Lib.hid k1; have VB := Lib.hid (OwnsB.below k2 VD.out); have BE := Lib.hid (BD.out.trans (k2.mono BD.out.size)); clear k1 k2)
          refine hK.out _ _ ?s30 (fun hHeld => ?_)
          case s30 => trivial
          clear hK K'
          refine wpAnyH_ready (rs := [32]) (by kernel_rfl) (by simp) ?_
          refine AllReadyH.cons rfl (fun K' hK => ?_) AllReadyH.nil
          go_simp
          (go_at_call 29; with_reducible refine (same9_any VA.out VB.out hlen).mono ?_; rintro e w11 ⟨rfl, k1⟩; rw [decide_eq_true rfl]; have BF := Lib.hid (BE.out.trans (k1.mono BE.out.size)); clear k1)
          refine hK.out _ _ ?s32 (fun hHeld => ?_)
          case s32 => trivial
          clear hK K'
          refine wpAnyH_take (i := 33) (oi := { dst := some 102, op := Op.unOp UnOp.not 4 (Operand.tmp 101), type := 4, pos := "law.go:185", after := #[{ on := 32, ground := Ground.data }, { on := 28, ground := Ground.guard }], guard := some (28, true) }) (v := ?v33) rfl (by kernel_rfl) (by kernel_rfl) (by kernel_rfl) (fun _ _ _ h => h) (Or.inl ⟨by rfl, ?h33⟩) (by assumption) ?r33
          case h33 => ((intro w' hSw; (try dsimp only at hSw)); go_simp; try (with_reducible rfl))
          (try simp only [Act.put, List.setIfInBounds_toArray, List.set_cons_zero, List.set_cons_succ])
          refine wpAnyH_take (i := 34) (oi := { dst := some 103, op := Op.pick (Operand.tmp 97) (Operand.tmp 102) (Operand.const (Value.bool false)), type := 4, pos := "law.go:185", after := #[{ on := 28, ground := Ground.data }, { on := 33, ground := Ground.data }, { on := 25, ground := Ground.guard }], guard := some (25, false) }) (v := ?v34) rfl (by kernel_rfl) (by kernel_rfl) (by kernel_rfl) (fun _ _ _ h => h) (Or.inl ⟨by rfl, ?h34⟩) (by assumption) ?r34
          case h34 => ((intro w' hSw; (try dsimp only at hSw)); go_simp; try (with_reducible rfl))
          (try simp only [Act.put, List.setIfInBounds_toArray, List.set_cons_zero, List.set_cons_succ])
          refine wpAnyH_take (i := 35) (oi := { dst := some 104, op := Op.pick (Operand.tmp 94) (Operand.const (Value.bool true)) (Operand.tmp 103), type := 4, pos := "law.go:185", after := #[{ on := 25, ground := Ground.data }, { on := 34, ground := Ground.data }], guard := none }) (v := ?v35) rfl (by kernel_rfl) (by kernel_rfl) (by kernel_rfl) (fun _ _ _ h => h) (Or.inl ⟨by rfl, ?h35⟩) (by assumption) ?r35
          case h35 => ((intro w' hSw; (try dsimp only at hSw)); go_simp; try (with_reducible rfl))
          (try simp only [Act.put, List.setIfInBounds_toArray, List.set_cons_zero, List.set_cons_succ])
          refine wpAnyH_done (by kernel_rfl) ?_ _
          clear hHeld
          have SF := Lib.hid (S8.out.below BF.out).1
          obtain ⟨q0, q1, q2⟩ := HC.out _ SF.out.bel
          obtain ⟨x0, x1, x2⟩ := (X8.out.below BF.out).all
          go_wp2_with fail
          rcases get_cases L b.id with ⟨e1, e2, e3⟩ | ⟨o, e1, e2, e3⟩
          · rw [e3]
            clear e1 e2 e3
            go_quiet (fail)
            go_wp2_with fail
            go_roundw
            case rel => exact ⟨i + 1, _, _, k + 4, by omega, by go_num, D7.out, by omega, (SF.out.below (below_drewN (Below.refl _ _) _)).1.less (fun _ h => h.elim)⟩
            case measure => simp only [RowKit.intOf]; omega
          · rw [e3]
            clear e1 e2 e3
            by_cases hv : b.ver ≤ old.ver
            · have hv1 : decide (b.ver ≤ old.ver) = true := decide_eq_true hv
              clear hv
              go_quiet (fail)
              go_wp2_with fail
              go_roundw
              case rel => exact ⟨i + 1, _, _, k + 4, by omega, by go_num, D7.out, by omega, (SF.out.below (below_drewN (Below.refl _ _) _)).1.less (fun _ h => h.elim)⟩
              case measure => simp only [RowKit.intOf]; omega
            · have hv1 : decide (b.ver ≤ old.ver) = false := decide_eq_false hv
              clear hv
              go_quiet (fail)
              go_wp2_with fail
              go_roundw
              case rel => exact ⟨i + 1, _, _, k + 4, by omega, by go_num, D7.out, by omega, (SF.out.below (below_drewN (Below.refl _ _) _)).1.less (fun _ h => h.elim)⟩
              case measure => simp only [RowKit.intOf]; omega
    · obtain rfl : i = n := by omega
      have hlI : ¬ ((i : Int) < (i : Int)) := by omega
      clear HSh HB
      go_wp2
      go_ret
      exact ⟨rfl, HS.out.bel⟩
set_option maxRecDepth 100000 in
set_option maxHeartbeats 2000000 in
theorem vers_out (A : Option Addr) (n c : Nat) (w : World) (hT : Tab w) (h : 60 < n) :
    Calls Tryz.prog 5 #[.slice A n c] w fun e w' => e = .returned (.bool true) ∧ Below w.heap.size w w' := by
  have HSh := Lib.hid (shown_any hT)
  have hnI : (60 : Int) < (n : Int) := by omega
  clear h hT
  go_enter Tryz.func5, Tryz.ntmps5
  go_wp2_with fail
  go_at_call 8
  refine HSh.out.mono ?_
  rintro e w2 ⟨rfl, k1⟩
  have B2 := Lib.hid k1
  clear k1
  go_wp2
  go_ret
  exact ⟨rfl, B2.out⟩
theorem shelfVersions_any (A : Option Addr) (n c : Nat) (bs : Nat → Bk) (w : World) (hT : Tab w) (hS : BIn w A n bs) :
    Calls Tryz.prog 5 #[.slice A n c] w fun e w' => e = .returned (.bool true) ∧ Below w.heap.size w w' := by
  by_cases h : 60 < n
  · exact vers_out A n c w hT h
  · exact vers_in A n c bs w hT hS (by omega)
end Go.Proofs.YtacdbfaoeioflaaGreatDoor
