/-
  StoreEpochs: a server's epoch never falls while it has power; without power it has none, and forgets who may write.
-/
import Derived.Test.YtmmpknfkncgjpaaGreatDoorM48
namespace Go.Proofs.YtmmpknfkncgjpaaGreatDoor
open Go.RowKit

theorem rest_wait0 {n c : Nat} {s : St} {L : Lay} {v : Sv} (h : PS n c s L v) : s.wait.length ≤ 1000 := by rw [h.nice.rest.wait]; simp
theorem PS.crash {n c : Nat} {s : St} {L : Lay} {v : Sv} (h : PS n c s L v) (keep : Nat) : PS n c (crash s keep) L v ∧ (crash s keep).gone = true := ⟨⟨(h.nice.crash keep).1, h.tm⟩, (h.nice.crash keep).2⟩
theorem PS.power {n c : Nat} {s : St} {L : Lay} {v : Sv} (h : PS n c s L v) : PS n c (pwO n s L v).1 (pwO n s L v).2.1 (pwO n s L v).2.2 ∧ (pwO n s L v).1.gone = false := by
  unfold pwO
  split
  · exact ⟨⟨h.nice.opened.1, by simp [Sv.new]⟩, rfl⟩
  · rename_i hg
    exact ⟨h, by simpa using hg⟩
set_option maxRecDepth 100000 in
set_option maxHeartbeats 8000000 in
theorem epochsLaw_any (A : Option Addr) (l : List (Fin 256)) (cap keep : Nat) (w : World) (hU : U8s w A l) (hl : l.length ≤ 9223372036854775807) (hkp : keep < 18446744073709551616) (hT : Tab w) (hE : ErrType w) :
    Calls Tryz.prog 9 #[.slice A l.length cap, .int .u64 (keep : Int)] w fun e w' => e = .returned (.bool true) ∧ Below w.heap.size w w' := by
  by_cases hl30 : (30 : Int) < (l.length : Int)
  · have hd1 : decide ((30 : Int) < (l.length : Int)) = true := decide_eq_true hl30
    clear hl30
    go_enter Tryz.func9, Tryz.ntmps9
    go_wp2_with fail
    go_at_call 11
    refine (shown13_any hT hE).mono ?_
    rintro e w1 ⟨rfl, k1⟩
    go_wp2
    go_ret
    exact ⟨rfl, k1⟩
  have hd1 : decide ((30 : Int) < (l.length : Int)) = false := decide_eq_false hl30
  have hl30' : l.length ≤ 30 := by omega
  have HT := Lib.hid hT
  have HE := Lib.hid hE
  have HU := Lib.hid hU
  clear hl30 hT hE hU hl
  go_enter Tryz.func9, Tryz.ntmps9
  go_wp2_with fail
  go_at_call 11
  refine (shown13_any HT.out HE.out).mono ?_
  rintro e w1 ⟨rfl, k1⟩
  have B1 := Lib.hid k1
  clear k1
  go_wp2_with fail
  go_at_call 12
  refine (hd_new (O := fun _ => False) B1.out HT.out 1 9 (fun _ h => h.elim)).mono ?_
  rintro e w2 ⟨tb, rfl, k1, -⟩
  have H := Lib.hid (show Hold w w2 (SVo tb 1 (fresh 9) L9 (vE 0) (2 * 0)) (fun _ => False) from k1)
  have Q := Lib.hid (show PS (size0 9) (8 * 0) (fresh 9) L9 (vE 0) from PS.fresh 9)
  clear k1 B1
  go_wp2
  go_loopw [6, 7] (fun nv iv wr => ∃ (k : Nat) (now : Int), k ≤ l.length ∧ iv = .int .i64 k ∧ nv = .int .i64 now ∧ 0 ≤ now ∧ now ≤ 255 ∧ Hold w wr (SVo tb 1 (fresh 9) L9 (vE now) (2 * k)) (fun _ => False) ∧ PS (size0 9) (8 * k) (fresh 9) L9 (vE now)) (fun _ iv _ => l.length - (RowKit.intOf iv).toNat)
  case atStart => exact ⟨0, 0, Nat.zero_le _, rfl, rfl, by omega, by omega, H.out, Q.out⟩
  case round =>
    obtain ⟨k, now, hk, rfl, rfl, hw0, hw1, hH, hQ⟩ := hrel
    have H := Lib.hid hH
    have Q := Lib.hid hQ
    clear hH hQ
    by_cases hlt : k < l.length
    · have hkI : (k : Int) < (l.length : Int) := by omega
      have hk0 : (0 : Int) ≤ (k : Int) := by omega
      obtain ⟨x, hx⟩ : ∃ x, l[k]? = some x := ⟨_, List.getElem?_eq_getElem hlt⟩
      obtain ⟨g, off, rfl, hg, hc⟩ := HU.out.at_ k x hx
      have hcw := (H.out.bel.cell (p := ⟨g, off + k, none⟩) hg).trans hc
      obtain ⟨nn, hnn, hn0, hn1⟩ : ∃ nn : Int, ((x.1 : Nat) : Int) = nn ∧ 0 ≤ nn ∧ nn ≤ 255 := ⟨_, rfl, by omega, by have := x.2; omega⟩
      rw [hnn] at hcw
      have hwn : IntKind.i64.wrap nn = nn := IntWalk.i64_in _ (by omega)
      clear hc hnn hx
      by_cases hlt : nn < now
      · as_aux_lemma =>
          have FA := Lib.hid (epo_old (now := now) (n := nn) (i := (k : Int)) hlt hn0 hn1 (by omega) (by omega))
          have FR := Lib.hid (read_other (n := nn) (now := now) (by omega) hn0 hn1)
          have hne : (nn != now) = true := by (simp only [bne_iff_ne, ne_eq]; omega)
          have hmx : max now nn = now := by omega
          have hdl : decide (nn < now) = true := decide_eq_true hlt
          have hdg : decide (now < nn) = false := decide_eq_false (by omega)
          clear hlt
          have HH := Lib.hid (show Calls Tryz.prog 24 #[.pointer (some ⟨tb, 0, none⟩), .agg #[.int .i64 4, .int .i64 0, .int .i64 1, .int .i64 nn, .int .i64 (k : Int), .int .i64 0, .int .i64 0, .string ⟨#[]⟩], .int .i64 0] wr fun e w' => e = .returned (.tuple #[.agg #[.int .i64 132, .int .i64 1, .int .i64 0, .int .i64 now, .int .i64 (k : Int), .int .i64 0, .int .i64 5, .string ⟨#[]⟩], .bool true]) ∧ Hold w w' (SVo tb 1 (fresh 9) L9 (vE now) (2 * k + 1)) (fun _ => False) from by
            refine (hd_handle H.out HT.out HE.out Q.out (by omega) (by omega) ⟨4, 0, 1, nn, (k : Int), 0, 0, ⟨#[]⟩⟩ (show i64 (4 : Int) from (i64_iff _).2 (by decide)) 0).mono ?_
            rintro e w' ⟨he, k1, -⟩
            rw [FA.out.2] at k1
            rw [FA.out.1] at he
            exact ⟨he, k1⟩)
          have Q := Lib.hid (Q.out.handle 1 ⟨4, 0, 1, nn, (k : Int), 0, 0, ⟨#[]⟩⟩ 0)
          rw [FA.out.2] at Q
          go_wp2_with fail
          go_at_call 24
          refine HH.out.mono ?_
          rintro e w3 ⟨rfl, k1⟩
          have H := Lib.hid k1
          clear k1 HH
          go_wp2_with ((with_reducible show wpList _ _ _ (Oper.mk none (Op.store _ (.tmp 9) _) _ _ _ _ :: _) _ _); refine wpList_store_msg rfl (.tmp 9) (.tmp 48) rfl w3.heap.size ⟨132, 1, 0, now, (k : Int), 0, 5, ⟨#[]⟩⟩ M.zero rfl rfl (MB.fresh w3 M.zero) ?_; intro w4 k1 k2 k3; have hbn := ((Below.refl w3.heap.size w3).alloc (Nat.le_refl _) (.cells M.zero.cells 31)).trans (Fb.below k2 (Nat.le_refl _) (by simp)); have H := Lib.hid (H.out.below hbn).1; have x3 : w4.cell? ⟨w3.heap.size, 3, none⟩ = some (.int .i64 now) := k1.cell 3; have x4 : w4.cell? ⟨w3.heap.size, 4, none⟩ = some (.int .i64 (k : Int)) := k1.cell 4; have x6 : w4.cell? ⟨w3.heap.size, 6, none⟩ = some (.int .i64 5) := k1.cell 6; clear k1 k2 k3 hbn)
          clear x3 x4 x6
          have HH := Lib.hid (show Calls Tryz.prog 24 #[.pointer (some ⟨tb, 0, none⟩), .agg #[.int .i64 1, .int .i64 0, .int .i64 1, .int .i64 nn, .int .i64 0, .int .i64 0, .int .i64 0, .string ⟨#[]⟩], .int .i64 0] w4 fun e w' => e = .returned (.tuple #[.agg #[.int .i64 129, .int .i64 1, .int .i64 0, .int .i64 now, .int .i64 0, .int .i64 0, .int .i64 120, .string ⟨#[]⟩], .bool true]) ∧ Hold w w' (SVo tb 1 (fresh 9) L9 (vE now) (2 * k + 1 + 1)) (fun _ => False) from by
            refine (hd_handle H.out HT.out HE.out Q.out (by omega) (by omega) ⟨1, 0, 1, nn, 0, 0, 0, ⟨#[]⟩⟩ (show i64 (1 : Int) from (i64_iff _).2 (by decide)) 0).mono ?_
            rintro e w' ⟨he, k1, -⟩
            rw [FR.out.2] at k1
            rw [FR.out.1] at he
            exact ⟨he, k1⟩)
          have Q := Lib.hid (Q.out.handle 1 ⟨1, 0, 1, nn, 0, 0, 0, ⟨#[]⟩⟩ 0)
          rw [FR.out.2] at Q
          go_at_call 24
          refine HH.out.mono ?_
          rintro e w5 ⟨rfl, k1⟩
          have H := Lib.hid k1
          clear k1 HH
          go_wp2_with ((with_reducible show wpList _ _ _ (Oper.mk none (Op.store _ (.tmp 12) _) _ _ _ _ :: _) _ _); refine wpList_store_msg rfl (.tmp 12) (.tmp 81) rfl w5.heap.size ⟨129, 1, 0, now, 0, 0, 120, ⟨#[]⟩⟩ M.zero rfl rfl (MB.fresh w5 M.zero) ?_; intro w6 k1 k2 k3; have hbn := ((Below.refl w5.heap.size w5).alloc (Nat.le_refl _) (.cells M.zero.cells 31)).trans (Fb.below k2 (Nat.le_refl _) (by simp)); have H := Lib.hid (H.out.below hbn).1; have x6 : w6.cell? ⟨w5.heap.size, 6, none⟩ = some (.int .i64 120) := k1.cell 6; clear k1 k2 k3 hbn)
          go_roundw
          case rel => exact ⟨k + 1, now, by omega, by go_num, rfl, by omega, by omega, H.out, Q.out.mono (by omega)⟩
          case measure => simp only [RowKit.intOf]; omega
      · as_aux_lemma =>
          have FA := Lib.hid (epo_new (now := now) (n := nn) (i := (k : Int)) hlt hn0 hn1 (by omega) (by omega))
          have FR := Lib.hid (read_this (n := nn) hn0 hn1)
          have hmx : max now nn = nn := by omega
          have hdl : decide (nn < now) = false := decide_eq_false (by omega)
          clear hlt
          have HH := Lib.hid (show Calls Tryz.prog 24 #[.pointer (some ⟨tb, 0, none⟩), .agg #[.int .i64 4, .int .i64 0, .int .i64 1, .int .i64 nn, .int .i64 (k : Int), .int .i64 0, .int .i64 0, .string ⟨#[]⟩], .int .i64 0] wr fun e w' => e = .returned (.tuple #[.agg #[.int .i64 132, .int .i64 1, .int .i64 0, .int .i64 nn, .int .i64 (k : Int), .int .i64 0, .int .i64 0, .string ⟨#[]⟩], .bool true]) ∧ Hold w w' (SVo tb 1 (fresh 9) L9 (vE nn) (2 * k + 1)) (fun _ => False) from by
            refine (hd_handle H.out HT.out HE.out Q.out (by omega) (by omega) ⟨4, 0, 1, nn, (k : Int), 0, 0, ⟨#[]⟩⟩ (show i64 (4 : Int) from (i64_iff _).2 (by decide)) 0).mono ?_
            rintro e w' ⟨he, k1, -⟩
            rw [FA.out.2] at k1
            rw [FA.out.1] at he
            exact ⟨he, k1⟩)
          have Q := Lib.hid (Q.out.handle 1 ⟨4, 0, 1, nn, (k : Int), 0, 0, ⟨#[]⟩⟩ 0)
          rw [FA.out.2] at Q
          go_wp2_with fail
          go_at_call 24
          refine HH.out.mono ?_
          rintro e w3 ⟨rfl, k1⟩
          have H := Lib.hid k1
          clear k1 HH
          go_wp2_with ((with_reducible show wpList _ _ _ (Oper.mk none (Op.store _ (.tmp 9) _) _ _ _ _ :: _) _ _); refine wpList_store_msg rfl (.tmp 9) (.tmp 48) rfl w3.heap.size ⟨132, 1, 0, nn, (k : Int), 0, 0, ⟨#[]⟩⟩ M.zero rfl rfl (MB.fresh w3 M.zero) ?_; intro w4 k1 k2 k3; have hbn := ((Below.refl w3.heap.size w3).alloc (Nat.le_refl _) (.cells M.zero.cells 31)).trans (Fb.below k2 (Nat.le_refl _) (by simp)); have H := Lib.hid (H.out.below hbn).1; have x3 : w4.cell? ⟨w3.heap.size, 3, none⟩ = some (.int .i64 nn) := k1.cell 3; have x4 : w4.cell? ⟨w3.heap.size, 4, none⟩ = some (.int .i64 (k : Int)) := k1.cell 4; have x6 : w4.cell? ⟨w3.heap.size, 6, none⟩ = some (.int .i64 0) := k1.cell 6; clear k1 k2 k3 hbn)
          clear x3 x4 x6
          have HH := Lib.hid (show Calls Tryz.prog 24 #[.pointer (some ⟨tb, 0, none⟩), .agg #[.int .i64 1, .int .i64 0, .int .i64 1, .int .i64 nn, .int .i64 0, .int .i64 0, .int .i64 0, .string ⟨#[]⟩], .int .i64 0] w4 fun e w' => e = .returned (.tuple #[.agg #[.int .i64 129, .int .i64 1, .int .i64 0, .int .i64 nn, .int .i64 0, .int .i64 0, .int .i64 3, .string ⟨#[]⟩], .bool true]) ∧ Hold w w' (SVo tb 1 (fresh 9) L9 (vE nn) (2 * k + 1 + 1)) (fun _ => False) from by
            refine (hd_handle H.out HT.out HE.out Q.out (by omega) (by omega) ⟨1, 0, 1, nn, 0, 0, 0, ⟨#[]⟩⟩ (show i64 (1 : Int) from (i64_iff _).2 (by decide)) 0).mono ?_
            rintro e w' ⟨he, k1, -⟩
            rw [FR.out.2] at k1
            rw [FR.out.1] at he
            exact ⟨he, k1⟩)
          have Q := Lib.hid (Q.out.handle 1 ⟨1, 0, 1, nn, 0, 0, 0, ⟨#[]⟩⟩ 0)
          rw [FR.out.2] at Q
          go_at_call 24
          refine HH.out.mono ?_
          rintro e w5 ⟨rfl, k1⟩
          have H := Lib.hid k1
          clear k1 HH
          go_wp2_with ((with_reducible show wpList _ _ _ (Oper.mk none (Op.store _ (.tmp 12) _) _ _ _ _ :: _) _ _); refine wpList_store_msg rfl (.tmp 12) (.tmp 81) rfl w5.heap.size ⟨129, 1, 0, nn, 0, 0, 3, ⟨#[]⟩⟩ M.zero rfl rfl (MB.fresh w5 M.zero) ?_; intro w6 k1 k2 k3; have hbn := ((Below.refl w5.heap.size w5).alloc (Nat.le_refl _) (.cells M.zero.cells 31)).trans (Fb.below k2 (Nat.le_refl _) (by simp)); have H := Lib.hid (H.out.below hbn).1; have x6 : w6.cell? ⟨w5.heap.size, 6, none⟩ = some (.int .i64 3) := k1.cell 6; clear k1 k2 k3 hbn)
          go_roundw
          case rel => exact ⟨k + 1, nn, by omega, by go_num, rfl, by omega, by omega, H.out, Q.out.mono (by omega)⟩
          case measure => simp only [RowKit.intOf]; omega
    · have hkI : ¬ (k : Int) < (l.length : Int) := by omega
      have HV1 := Lib.hid (show ∀ V, Calls Tryz.prog 19 #[.int .i64 9, .string ⟨#[97]⟩] V fun e w' => e = .returned (.tuple #[.string (valB 9 ⟨#[97]⟩), .int .i64 0]) ∧ Below V.heap.size V w' from fun V => by
        have := value_any 9 ⟨#[97]⟩ V
        rw [show valO 9 ⟨#[97]⟩ = (valB 9 ⟨#[97]⟩, 0) from if_pos v9] at this
        exact this)
      have HV2 := Lib.hid (show ∀ V, Calls Tryz.prog 19 #[.int .i64 100, .string ⟨#[]⟩] V fun e w' => e = .returned (.tuple #[.string (valB 100 ⟨#[]⟩), .int .i64 0]) ∧ Below V.heap.size V w' from fun V => by
        have := value_any 100 ⟨#[]⟩ V
        rw [show valO 100 ⟨#[]⟩ = (valB 100 ⟨#[]⟩, 0) from if_pos v100] at this
        exact this)
      have FT := Lib.hid (epo_time (now := now))
      have FL := Lib.hid (fun (s : St) (L : Lay) (h : s.gone = false) => epo_last (s := s) (L := L) h)
      go_wp2_with fail
      go_at_call 19
      refine (HV1.out _).mono ?_
      rintro e w3 ⟨rfl, k1⟩
      have H := Lib.hid (H.out.below k1).1
      clear k1
      go_wp2_with fail
      go_at_call 19
      refine (HV2.out _).mono ?_
      rintro e w4 ⟨rfl, k1⟩
      have H := Lib.hid (H.out.below k1).1
      clear k1 HV1 HV2
      generalize hvv : valB 9 ⟨#[97]⟩ = vv at *
      generalize htt : valB 100 ⟨#[]⟩ = tt at *
      have HH := Lib.hid (show Calls Tryz.prog 24 #[.pointer (some ⟨tb, 0, none⟩), .agg #[.int .i64 3, .int .i64 0, .int .i64 1, .int .i64 0, .int .i64 0, .int .i64 2, .int .i64 0, .string tt], .int .i64 0] w4 fun e w' => e = .returned (.tuple #[.agg #[.int .i64 131, .int .i64 1, .int .i64 0, .int .i64 now, .int .i64 0, .int .i64 2, .int .i64 0, .string ⟨#[]⟩], .bool true]) ∧ Hold w w' (SVo tb 1 (fresh 9) L9 (vT now) (2 * k + 1)) (fun _ => False) from by
        refine (hd_handle H.out HT.out HE.out Q.out (by omega) (by omega) ⟨3, 0, 1, 0, 0, 2, 0, tt⟩ (show i64 (3 : Int) from (i64_iff _).2 (by decide)) 0).mono ?_
        rintro e w' ⟨he, k1, -⟩
        rw [FT.out.2] at k1
        rw [FT.out.1] at he
        exact ⟨he, k1⟩)
      have Q := Lib.hid (Q.out.handle 1 ⟨3, 0, 1, 0, 0, 2, 0, tt⟩ 0)
      rw [FT.out.2] at Q
      go_wp2_with fail
      go_at_call 24
      refine HH.out.mono ?_
      rintro e w5 ⟨rfl, k1⟩
      have H := Lib.hid k1
      clear k1 HH
      obtain ⟨pb, Fp, c0, hP, kk⟩ := hd_plate H.out
      have HCr := Lib.hid (crash_any pb _ Fp keep w5 hP Q.out.nice.rest.good (rest_wait0 Q.out) hkp)
      obtain ⟨q1, q2⟩ := Q.out.crash keep
      have HK := Lib.hid (fun w' (hg : Goes Fp w5 w' (PB w' pb (crash (fresh 9) keep))) => (kk w' _ (fun _ => q2) hg).1)
      have Q := Lib.hid q1
      have HQ2 := Lib.hid q2
      clear q1 q2 kk hP
      go_wp2_with fail
      go_at_call 25
      refine HCr.out.mono ?_
      rintro e w6 ⟨rfl, kg⟩
      have H := Lib.hid (HK.out _ kg)
      clear kg HK HCr c0
      have FN := Lib.hid (not_heard (id := 1) (s := crash (fresh 9) keep) (L := L9) (v := vT now) (m := ⟨1, 0, 1, now, 0, 0, 0, ⟨#[]⟩⟩) (t := 0) HQ2.out)
      have HH := Lib.hid (show Calls Tryz.prog 24 #[.pointer (some ⟨tb, 0, none⟩), .agg #[.int .i64 1, .int .i64 0, .int .i64 1, .int .i64 now, .int .i64 0, .int .i64 0, .int .i64 0, .string ⟨#[]⟩], .int .i64 0] w6 fun e w' => e = .returned (.tuple #[.agg #[.int .i64 0, .int .i64 0, .int .i64 0, .int .i64 0, .int .i64 0, .int .i64 0, .int .i64 0, .string ⟨#[]⟩], .bool false]) ∧ Hold w w' (SVo tb 1 (crash (fresh 9) keep) L9 (vT now) ((2 * k + 1) + 1)) (fun _ => False) from by
        refine (hd_handle H.out HT.out HE.out Q.out (by omega) (by omega) ⟨1, 0, 1, now, 0, 0, 0, ⟨#[]⟩⟩ (show i64 (1 : Int) from (i64_iff _).2 (by decide)) 0).mono ?_
        rintro e w' ⟨he, k1, -⟩
        rw [FN.out.2] at k1
        rw [FN.out.1] at he
        exact ⟨he, k1⟩)
      have Q := Lib.hid (Q.out.handle 1 ⟨1, 0, 1, now, 0, 0, 0, ⟨#[]⟩⟩ 0)
      rw [FN.out.2] at Q
      go_wp2_with fail
      go_at_call 24
      refine HH.out.mono ?_
      rintro e w7 ⟨rfl, k1⟩
      have H := Lib.hid k1
      clear k1 HH
      go_wp2_with ((with_reducible show wpList _ _ _ (Oper.mk none (Op.store _ (.tmp 18) _) _ _ _ _ :: _) _ _); refine wpList_store_msg rfl (.tmp 18) (.tmp 123) rfl w7.heap.size ⟨0, 0, 0, 0, 0, 0, 0, ⟨#[]⟩⟩ M.zero rfl rfl (MB.fresh w7 M.zero) ?_; intro w8 k1 k2 k3; have hbn := ((Below.refl w7.heap.size w7).alloc (Nat.le_refl _) (.cells M.zero.cells 31)).trans (Fb.below k2 (Nat.le_refl _) (by simp)); have H := Lib.hid (H.out.below hbn).1; clear k1 k2 k3 hbn)
      have HPw := Lib.hid (hd_power H.out HT.out Q.out)
      go_at_call 26
      refine HPw.out.mono ?_
      rintro e w9 ⟨rfl, k1, -⟩
      have H := Lib.hid k1
      obtain ⟨q1, q2⟩ := Q.out.power
      have hv : (pwO (size0 9) (crash (fresh 9) keep) L9 (vT now)).2.2 = Sv.new := by unfold pwO; rw [if_pos HQ2.out]
      rw [hv] at H q1
      have Q := Lib.hid q1
      have FW := Lib.hid (FL.out _ (pwO (size0 9) (crash (fresh 9) keep) L9 (vT now)).2.1 q2)
      clear k1 q1 q2 hv HPw
      generalize (pwO (size0 9) (crash (fresh 9) keep) L9 (vT now)).1 = sx at H Q FW
      generalize (pwO (size0 9) (crash (fresh 9) keep) L9 (vT now)).2.1 = lx at H Q FW
      have HH := Lib.hid (show Calls Tryz.prog 24 #[.pointer (some ⟨tb, 0, none⟩), .agg #[.int .i64 2, .int .i64 2, .int .i64 1, .int .i64 0, .int .i64 0, .int .i64 0, .int .i64 0, .string vv], .int .i64 0] w9 fun e w' => e = .returned (.tuple #[.agg #[.int .i64 130, .int .i64 1, .int .i64 2, .int .i64 0, .int .i64 0, .int .i64 0, .int .i64 140, .string ⟨#[]⟩], .bool true]) ∧ Below w.heap.size w w' from by
        refine (hd_handle H.out HT.out HE.out Q.out (by omega) (by omega) ⟨2, 2, 1, 0, 0, 0, 0, vv⟩ (show i64 (2 : Int) from (i64_iff _).2 (by decide)) 0).mono ?_
        rintro e w' ⟨he, k1, -⟩
        rw [show (⟨2, 2, 1, 0, 0, 0, 0, vv⟩ : M) = ⟨2, 2, 1, 0, 0, 0, 0, vv⟩ from rfl, FW.out] at he
        exact ⟨he, k1.bel⟩)
      go_wp2_with fail
      go_at_call 24
      refine HH.out.mono ?_
      rintro e w10 ⟨rfl, k1⟩
      have B10 := Lib.hid k1
      clear k1 HH H
      go_wp2_with ((with_reducible show wpList _ _ _ (Oper.mk none (Op.store _ (.tmp 20) _) _ _ _ _ :: _) _ _); refine wpList_store_msg rfl (.tmp 20) (.tmp 132) rfl w10.heap.size ⟨130, 1, 2, 0, 0, 0, 140, ⟨#[]⟩⟩ M.zero rfl rfl (MB.fresh w10 M.zero) ?_; intro w11 k1 k2 k3; have hbn := ((Below.refl w10.heap.size w10).alloc (Nat.le_refl _) (.cells M.zero.cells 31)).trans (Fb.below k2 (Nat.le_refl _) (by simp)); have B11 := Lib.hid (B10.out.trans (hbn.mono B10.out.size)); have x3 : w11.cell? ⟨w10.heap.size, 3, none⟩ = some (.int .i64 0) := k1.cell 3; have x6 : w11.cell? ⟨w10.heap.size, 6, none⟩ = some (.int .i64 140) := k1.cell 6; clear k1 k2 k3 hbn)
      go_ret
      exact ⟨rfl, B11.out⟩
end Go.Proofs.YtmmpknfkncgjpaaGreatDoor
