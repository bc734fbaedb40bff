/-
  ExtentApart, walked.
-/
import Derived.Test.YtlffgfkcgldekaaApartLaw
namespace Go.Proofs.Ytlffgfkcgldekaa
open Go.RowKit

set_option maxRecDepth 100000 in
set_option maxHeartbeats 16000000 in
theorem apart_any (A : Option Addr) (n c : Nat) (st : Nat → Stp) (w : World) (hS : Steps w A n st) (hn : n ≤ 9223372036854775807) :
    Calls Try.prog 5 #[.slice A n c] w fun e w' => e = .returned (.bool true) ∧ Below w.heap.size w w' := by
  have HS := Lib.hid hS
  have HN := Lib.hid (fun w => new_any 100 w)
  have HSH := Lib.hid (fun W (hW : Below w.heap.size w W) => (shown_any W).mono fun _ _ ⟨he, hb⟩ => And.intro he (hW.trans (hb.mono hW.size)))
  clear hS
  by_cases hbig : 60 < n
  · have hbI : (60 : Int) < (n : Int) := by omega
    go_enter Try.func5, Try.ntmps5
    go_wp2
    go_ret
    exact ⟨rfl, Below.refl _ _⟩
  have hbI : ¬ (60 < (n : Int)) := by omega
  go_enter Try.func5, Try.ntmps5
  go_wp2_with fail
  go_at_call 9
  refine (HN.out _).mono ?_
  rintro e w1 ⟨rfl, k1⟩
  have P1 := Lib.hid (BK.lit (PIO.start (Below.refl _ w) k1))
  clear k1 HN
  generalize w.heap.size + 1 = b at P1
  go_wp2_with fail
  go_loopw [4, 5] (fun hv iv wr => ∃ (k : Nat) (s : St) (H : List Rg), k ≤ n ∧ iv = .int .i64 k ∧ BK w wr b s w.heap.size hv H [] ∧ Ap s H ∧ H.length ≤ k) (fun _ iv _ => n - (intOf iv).toNat)
  case atStart => exact ⟨0, fresh 100, [], Nat.zero_le _, rfl, P1.out, Ap.fresh, Nat.le_refl _⟩
  case round =>
    obtain ⟨k, s, H, hk, rfl, hB, hA, hlen⟩ := hrel
    have B3 := Lib.hid hB
    have A3 := Lib.hid hA
    obtain ⟨B0, dd, rfl, hdd, hrd⟩ := hB.2.1.rd
    have RD3 := Lib.hid hrd
    clear hB hA hrd P1
    by_cases hlt : k < n
    · have hlI : (k : Int) < (n : Int) := by omega
      have hk0 : (0 : Int) ≤ (k : Int) := by omega
      obtain ⟨ab, off, rfl, hat0⟩ := HS.out k hlt
      obtain ⟨c0, c1, -, -⟩ := hat0.below B3.out.bel hat0.lt
      have HAT := Lib.hid (fun W (hW : Below w.heap.size w W) => (hat0.below hW hat0.lt).c1)
      clear hat0
      generalize st k = o at c0 c1 HAT
      obtain ⟨ok, on, ro⟩ := o
      replace c0 : wr.cell? ⟨ab, off + k * 4, none⟩ = some (.int .i64 ok) := c0
      replace c1 : wr.cell? ⟨ab, off + k * 4 + 1, none⟩ = some (.int .i64 on) := c1
      replace HAT : Hid (∀ W, Below w.heap.size w W → W.cell? ⟨ab, off + k * 4 + 1, none⟩ = some (.int .i64 on)) := HAT
      clear ro
      obtain ⟨m, hmm⟩ : ∃ m, H.length = m := ⟨_, rfl⟩
      have B4 := B3.out
      rw [hmm] at B4 hdd ⊢
      have B4 := Lib.hid B4
      have hlm : m ≤ k := by omega
      have HMM := Lib.hid hmm
      clear hmm hlen
      by_cases x0 : ok = 0
      · subst x0
        rcases alloc_cases s A3.out.good on with ⟨a0, a1, a2, a3⟩ | ⟨a0, a1, f, a2, a3, a4, a5⟩
        · have HAL := bk_alloc B4.out A3.out.good on rfl a2 a3
          have e1 : (allocE s on == 0) = false := by simpa using a0
          clear a0 a1 a2 a3
          generalize allocE s on = ev at *
          go_wp2_with fail
          go_at_call 13
          (with_reducible refine HAL.out.mono ?_)
          rintro e w8 ⟨rfl, hB⟩
          have B8 := Lib.hid (hB.below ((Below.refl _ _).alloc (Nat.le_refl _) (.cells #[.int .i64 0, .int .i64 0] 30)))
          clear hB HAL
          obtain ⟨B0', dd', hve, hdd', hrd⟩ := B8.out.2.1.rd
          simp only [Value.slice.injEq] at hve
          obtain ⟨rfl, hm, rfl⟩ := hve
          rw [HMM.out] at hdd'
          have RD := Lib.hid hrd
          have HTS := Lib.hid (fun i x hx => total_snoc (l := H) (k := i) (x := x) hx)
          have HG := Lib.hid (fun a (ha : a < m) => ex_get (l := H) (k := a) (by omega))
          have HTL := Lib.hid (show List.take m H = H from by rw [hm]; simp)
          clear hrd hm
          go_wp2_with fail
          go_loopw [10, 11] (fun nv kv wq => ∃ q : Nat, q ≤ m ∧ kv = .int .i64 q ∧ nv = .int .i64 (total (List.take q H)) ∧ BK w wq b s w.heap.size (.slice B0 m dd) H [] ∧ Rd wq B0 H) (fun _ kv _ => m - (intOf kv).toNat)
          case atStart => exact ⟨0, Nat.zero_le _, rfl, rfl, B8.out, RD.out⟩
          case round =>
            obtain ⟨q, hq, rfl, rfl, hB, hR⟩ := hrel
            have B5 := Lib.hid hB
            have R5 := Lib.hid hR
            clear hB hR
            have t1 := A3.out.bound q
            by_cases hqH : q < m
            · have hqI : (q : Int) < (m : Int) := by omega
              have hq0 : (0 : Int) ≤ (q : Int) := by omega
              obtain ⟨⟨xf, xt⟩, hx⟩ := HG.out q hqH
              obtain ⟨gl, rfl, a0, a1⟩ := R5.out q _ hx
              replace a0 : wr.cell? ⟨gl, q * 2, none⟩ = some (.int .i64 xf) := a0
              replace a1 : wr.cell? ⟨gl, q * 2 + 1, none⟩ = some (.int .i64 xt) := a1
              have hxe : 0 ≤ xf ∧ xf < xt ∧ xt ≤ 100 := A3.out.el hx
              have t2 := A3.out.bound (q + 1)
              have t3 : total (List.take (q + 1) H) = total (List.take q H) + (xt - xf) := HTS.out q _ hx
              have t4 : total (List.take q H) + (xt - xf) ≤ 100 := by omega
              have t5 : 0 ≤ total (List.take q H) + (xt - xf) := by omega
              have T3 := Lib.hid t3
              have HX := Lib.hid hx
              clear hx t3 t2
              go_wp2_with fail
              go_quiet (fail)
              go_wp2_with fail
              go_loopw [12] (fun jv wz => ∃ j : Nat, j ≤ q ∧ jv = .int .i64 j ∧ BK w wz b s w.heap.size (.slice (some ⟨gl, 0, none⟩) m dd) H [] ∧ Rd wz (some ⟨gl, 0, none⟩) H) (fun jv _ => q - (intOf jv).toNat)
              case atStart => exact ⟨0, Nat.zero_le _, rfl, B5.out.below (below_drewN (Below.refl _ _) nq), R5.out.below (below_drewN (Below.refl _ _) nq)⟩
              case round =>
                obtain ⟨j, hj, rfl, hB, hR⟩ := hrel
                have B6 := Lib.hid hB
                have R6 := Lib.hid hR
                clear hB hR
                by_cases hjq : j < q
                · have hjI : (j : Int) < (q : Int) := by omega
                  have hj0 : (0 : Int) ≤ (j : Int) := by omega
                  have hjH : (j : Int) < (m : Int) := by omega
                  obtain ⟨⟨yf, yt⟩, hy⟩ := HG.out j (by omega)
                  obtain ⟨g1, e1, b0, b1⟩ := R6.out j _ hy
                  simp only [Option.some.injEq, Addr.mk.injEq, and_true] at e1
                  subst e1
                  obtain ⟨g2, e2, d0, d1⟩ := R6.out q _ HX.out
                  simp only [Option.some.injEq, Addr.mk.injEq, and_true] at e2
                  subst e2
                  replace b0 : wr.cell? ⟨gl, j * 2, none⟩ = some (.int .i64 yf) := b0
                  replace b1 : wr.cell? ⟨gl, j * 2 + 1, none⟩ = some (.int .i64 yt) := b1
                  replace d0 : wr.cell? ⟨gl, q * 2, none⟩ = some (.int .i64 xf) := d0
                  replace d1 : wr.cell? ⟨gl, q * 2 + 1, none⟩ = some (.int .i64 xt) := d1
                  have hye : 0 ≤ yf ∧ yf < yt ∧ yt ≤ 100 := A3.out.el hy
                  have hdis : yt ≤ xf ∨ xt ≤ yf := A3.out.two hjq HX.out hy
                  clear hy
                  rcases hdis with hd | hd
                  · have f1 : ¬ xf < yf := by omega
                    have f2 : yt < xt := by omega
                    have f3 : ¬ xf < yt := by omega
                    go_wp2_with fail
                    go_quiet (fail)
                    go_wp2_with fail
                    go_roundw
                    case rel => exact ⟨j + 1, by omega, by go_num, B6.out.below (below_drewN (Below.refl _ _) _), R6.out.below (below_drewN (Below.refl _ _) _)⟩
                    case measure => simp [intOf]; omega
                  · have f1 : xf < yf := by omega
                    have f2 : ¬ yt < xt := by omega
                    have f3 : ¬ yf < xt := by omega
                    go_wp2_with fail
                    go_quiet (fail)
                    go_wp2_with fail
                    go_roundw
                    case rel => exact ⟨j + 1, by omega, by go_num, B6.out.below (below_drewN (Below.refl _ _) _), R6.out.below (below_drewN (Below.refl _ _) _)⟩
                    case measure => simp [intOf]; omega
                · obtain rfl : j = q := by omega
                  have hjI : ¬ ((j : Int) < (j : Int)) := by omega
                  go_wp2_with fail
                  go_roundw
                  case rel => exact ⟨j + 1, by omega, by go_num, congrArg (Value.int .i64) T3.out.symm, B6.out, R6.out⟩
                  case measure => simp [intOf]; omega
            · obtain rfl : m = q := by omega
              have hqI : ¬ ((m : Int) < (m : Int)) := by omega
              have hE : total (List.take m H) + cnt s.p s.n = 100 := by rw [show List.take m H = H from HTL.out]; exact A3.out.sum
              have HFR := Lib.hid (io_free B5.out.1 A3.out.good)
              have hcn := cnt_in s.p s.n
              generalize cnt s.p s.n = cf at *
              generalize total (List.take m H) = tf at *
              obtain rfl : tf = 100 - cf := by omega
              have hE2 : 100 - cf + cf = 100 := by omega
              clear hE
              go_wp2_with (first
                | (go_at_call 11; (with_reducible refine HFR.out.mono ?_); rintro e w6 ⟨rfl, hb⟩; have B7 := Lib.hid (B5.out.below hb); clear hb)
                | fail)
              go_roundw
              case rel => exact ⟨k + 1, s, H, by omega, by go_num, B7.out, A3.out, by have := HMM.out; omega⟩
              case measure => simp [intOf]; omega
        · have HAL := bk_alloc B4.out A3.out.good on a0 a2 a5
          have A5 := Lib.hid (A3.out.alloc a3 a4)
          clear a0 a1 a2 a3 a4 a5
          obtain ⟨m1, hm1⟩ : ∃ m1, m + 1 = m1 := ⟨_, rfl⟩
          have hm1k : m1 ≤ k + 1 := by omega
          have L9 := Lib.hid (show (H ++ [⟨f, f + on⟩] : List Rg).length = m1 from by rw [List.length_append, HMM.out]; exact hm1)
          clear hm1
          go_wp2_with fail
          go_at_call 13
          (with_reducible refine HAL.out.mono ?_)
          rintro e w8 ⟨rfl, hB⟩
          have BW := Lib.hid (hB.below (((Below.refl w8.heap.size w8).alloc (Nat.le_refl _) (.cells #[.int .i64 f, .int .i64 (f + on)] 30)).alloc (by simp) (.cells #[.int .i64 f, .int .i64 (f + on)] 30)))
          have SR := Lib.hid (srcs_new' (w := w8.alloc (.cells #[.int .i64 f, .int .i64 (f + on)] 30)) (N := w8.heap.size + 1) (by simp) ⟨f, f + on⟩ 1 30)
          clear hB HAL
          go_wp2_with (first
            | (at_builtin; refine wpList_own (w0 := w) (L := m1) (lm := H ++ [⟨f, f + on⟩]) rfl (.tmp 42) (.tmp 44) rfl BW.out.2.1 BW.out.bel SR.out (by simp) (by omega) rfl L9.out ?_; intro g4 cap4 w9 hA hB2 hg hv; have B9 := Lib.hid (BW.out.grow hA hg (own_of hv)); clear hA hB2 hg hv)
            | fail)
          clear BW SR B4 RD3
          generalize H ++ [⟨f, f + on⟩] = H2 at A5 L9 B9
          generalize set s ⟨f, f + on⟩ false = s2 at A5 B9
          obtain ⟨B0', dd', hve, hdd', hrd⟩ := B9.out.2.1.rd
          simp only [Value.slice.injEq] at hve
          obtain ⟨rfl, hm, rfl⟩ := hve
          rw [L9.out] at hdd'
          have RD := Lib.hid hrd
          have HTS := Lib.hid (fun i x hx => total_snoc (l := H2) (k := i) (x := x) hx)
          have HG := Lib.hid (fun a (ha : a < m1) => ex_get (l := H2) (k := a) (by omega))
          have HTL := Lib.hid (show List.take m1 H2 = H2 from by rw [hm]; simp)
          clear hrd hm
          go_loopw [10, 11] (fun nv kv wq => ∃ q : Nat, q ≤ m1 ∧ kv = .int .i64 q ∧ nv = .int .i64 (total (List.take q H2)) ∧ BK w wq b s2 w.heap.size (.slice (some ⟨g4, 0, none⟩) m1 cap4) H2 [] ∧ Rd wq (some ⟨g4, 0, none⟩) H2) (fun _ kv _ => m1 - (intOf kv).toNat)
          case atStart => exact ⟨0, Nat.zero_le _, rfl, rfl, B9.out, RD.out⟩
          case round =>
            obtain ⟨q, hq, rfl, rfl, hB, hR⟩ := hrel
            have B5 := Lib.hid hB
            have R5 := Lib.hid hR
            clear hB hR
            have t1 := A5.out.bound q
            by_cases hqH : q < m1
            · have hqI : (q : Int) < (m1 : Int) := by omega
              have hq0 : (0 : Int) ≤ (q : Int) := by omega
              obtain ⟨⟨xf, xt⟩, hx⟩ := HG.out q hqH
              obtain ⟨gz, hgz, a0, a1⟩ := R5.out q _ hx
              simp only [Option.some.injEq, Addr.mk.injEq, and_true] at hgz
              subst hgz
              replace a0 : wr.cell? ⟨g4, q * 2, none⟩ = some (.int .i64 xf) := a0
              replace a1 : wr.cell? ⟨g4, q * 2 + 1, none⟩ = some (.int .i64 xt) := a1
              have hxe : 0 ≤ xf ∧ xf < xt ∧ xt ≤ 100 := A5.out.el hx
              have t2 := A5.out.bound (q + 1)
              have t3 : total (List.take (q + 1) H2) = total (List.take q H2) + (xt - xf) := HTS.out q _ hx
              have t4 : total (List.take q H2) + (xt - xf) ≤ 100 := by omega
              have t5 : 0 ≤ total (List.take q H2) + (xt - xf) := by omega
              have T3 := Lib.hid t3
              have HX := Lib.hid hx
              clear hx t3 t2
              go_wp2_with fail
              go_quiet (fail)
              go_wp2_with fail
              go_loopw [12] (fun jv wz => ∃ j : Nat, j ≤ q ∧ jv = .int .i64 j ∧ BK w wz b s2 w.heap.size (.slice (some ⟨g4, 0, none⟩) m1 cap4) H2 [] ∧ Rd wz (some ⟨g4, 0, none⟩) H2) (fun jv _ => q - (intOf jv).toNat)
              case atStart => exact ⟨0, Nat.zero_le _, rfl, B5.out.below (below_drewN (Below.refl _ _) nq), R5.out.below (below_drewN (Below.refl _ _) nq)⟩
              case round =>
                obtain ⟨j, hj, rfl, hB, hR⟩ := hrel
                have B6 := Lib.hid hB
                have R6 := Lib.hid hR
                clear hB hR
                by_cases hjq : j < q
                · have hjI : (j : Int) < (q : Int) := by omega
                  have hj0 : (0 : Int) ≤ (j : Int) := by omega
                  have hjH : (j : Int) < (m1 : Int) := by omega
                  obtain ⟨⟨yf, yt⟩, hy⟩ := HG.out j (by omega)
                  obtain ⟨g1, e1, b0, b1⟩ := R6.out j _ hy
                  simp only [Option.some.injEq, Addr.mk.injEq, and_true] at e1
                  subst e1
                  obtain ⟨g2, e2, d0, d1⟩ := R6.out q _ HX.out
                  simp only [Option.some.injEq, Addr.mk.injEq, and_true] at e2
                  subst e2
                  replace b0 : wr.cell? ⟨g4, j * 2, none⟩ = some (.int .i64 yf) := b0
                  replace b1 : wr.cell? ⟨g4, j * 2 + 1, none⟩ = some (.int .i64 yt) := b1
                  replace d0 : wr.cell? ⟨g4, q * 2, none⟩ = some (.int .i64 xf) := d0
                  replace d1 : wr.cell? ⟨g4, q * 2 + 1, none⟩ = some (.int .i64 xt) := d1
                  have hye : 0 ≤ yf ∧ yf < yt ∧ yt ≤ 100 := A5.out.el hy
                  have hdis : yt ≤ xf ∨ xt ≤ yf := A5.out.two hjq HX.out hy
                  clear hy
                  rcases hdis with hd | hd
                  · have f1 : ¬ xf < yf := by omega
                    have f2 : yt < xt := by omega
                    have f3 : ¬ xf < yt := by omega
                    go_wp2_with fail
                    go_quiet (fail)
                    go_wp2_with fail
                    go_roundw
                    case rel => exact ⟨j + 1, by omega, by go_num, B6.out.below (below_drewN (Below.refl _ _) _), R6.out.below (below_drewN (Below.refl _ _) _)⟩
                    case measure => simp [intOf]; omega
                  · have f1 : xf < yf := by omega
                    have f2 : ¬ yt < xt := by omega
                    have f3 : ¬ yf < xt := by omega
                    go_wp2_with fail
                    go_quiet (fail)
                    go_wp2_with fail
                    go_roundw
                    case rel => exact ⟨j + 1, by omega, by go_num, B6.out.below (below_drewN (Below.refl _ _) _), R6.out.below (below_drewN (Below.refl _ _) _)⟩
                    case measure => simp [intOf]; omega
                · obtain rfl : j = q := by omega
                  have hjI : ¬ ((j : Int) < (j : Int)) := by omega
                  go_wp2_with fail
                  go_roundw
                  case rel => exact ⟨j + 1, by omega, by go_num, congrArg (Value.int .i64) T3.out.symm, B6.out, R6.out⟩
                  case measure => simp [intOf]; omega
            · obtain rfl : m1 = q := by omega
              have hqI : ¬ ((m1 : Int) < (m1 : Int)) := by omega
              have hE : total (List.take m1 H2) + cnt s2.p s2.n = 100 := by rw [show List.take m1 H2 = H2 from HTL.out]; exact A5.out.sum
              have HFR := Lib.hid (io_free B5.out.1 A5.out.good)
              have hcn := cnt_in s2.p s2.n
              generalize cnt s2.p s2.n = cf at *
              generalize total (List.take m1 H2) = tf at *
              obtain rfl : tf = 100 - cf := by omega
              have hE2 : 100 - cf + cf = 100 := by omega
              clear hE
              go_wp2_with (first
                | (go_at_call 11; (with_reducible refine HFR.out.mono ?_); rintro e w6 ⟨rfl, hb⟩; have B7 := Lib.hid (B5.out.below hb); clear hb)
                | fail)
              go_roundw
              case rel => exact ⟨k + 1, s2, H2, by omega, by go_num, B7.out, A5.out, by have := L9.out; omega⟩
              case measure => simp [intOf]; omega
      · have d0 : (ok == 0) = false := by simpa using x0
        by_cases hon : on < 0
        · have hd1 : ¬ 0 ≤ on := by omega
          have hd2 : decide (0 ≤ on) = false := by simpa using hd1
          obtain ⟨B0', dd', hve, hdd', hrd⟩ := B4.out.2.1.rd
          simp only [Value.slice.injEq] at hve
          obtain ⟨rfl, hm, rfl⟩ := hve
          rw [HMM.out] at hdd'
          have RD := Lib.hid hrd
          have HTS := Lib.hid (fun i x hx => total_snoc (l := H) (k := i) (x := x) hx)
          have HG := Lib.hid (fun a (ha : a < m) => ex_get (l := H) (k := a) (by omega))
          have HTL := Lib.hid (show List.take m H = H from by rw [hm]; simp)
          clear hrd hm
          go_wp2_with fail
          go_loopw [10, 11] (fun nv kv wq => ∃ q : Nat, q ≤ m ∧ kv = .int .i64 q ∧ nv = .int .i64 (total (List.take q H)) ∧ BK w wq b s w.heap.size (.slice B0 m dd) H [] ∧ Rd wq B0 H) (fun _ kv _ => m - (intOf kv).toNat)
          case atStart => exact ⟨0, Nat.zero_le _, rfl, rfl, B4.out, RD.out⟩
          case round =>
            obtain ⟨q, hq, rfl, rfl, hB, hR⟩ := hrel
            have B5 := Lib.hid hB
            have R5 := Lib.hid hR
            clear hB hR
            have t1 := A3.out.bound q
            by_cases hqH : q < m
            · have hqI : (q : Int) < (m : Int) := by omega
              have hq0 : (0 : Int) ≤ (q : Int) := by omega
              obtain ⟨⟨xf, xt⟩, hx⟩ := HG.out q hqH
              obtain ⟨gl, rfl, a0, a1⟩ := R5.out q _ hx
              replace a0 : wr.cell? ⟨gl, q * 2, none⟩ = some (.int .i64 xf) := a0
              replace a1 : wr.cell? ⟨gl, q * 2 + 1, none⟩ = some (.int .i64 xt) := a1
              have hxe : 0 ≤ xf ∧ xf < xt ∧ xt ≤ 100 := A3.out.el hx
              have t2 := A3.out.bound (q + 1)
              have t3 : total (List.take (q + 1) H) = total (List.take q H) + (xt - xf) := HTS.out q _ hx
              have t4 : total (List.take q H) + (xt - xf) ≤ 100 := by omega
              have t5 : 0 ≤ total (List.take q H) + (xt - xf) := by omega
              have T3 := Lib.hid t3
              have HX := Lib.hid hx
              clear hx t3 t2
              go_wp2_with fail
              go_quiet (fail)
              go_wp2_with fail
              go_loopw [12] (fun jv wz => ∃ j : Nat, j ≤ q ∧ jv = .int .i64 j ∧ BK w wz b s w.heap.size (.slice (some ⟨gl, 0, none⟩) m dd) H [] ∧ Rd wz (some ⟨gl, 0, none⟩) H) (fun jv _ => q - (intOf jv).toNat)
              case atStart => exact ⟨0, Nat.zero_le _, rfl, B5.out.below (below_drewN (Below.refl _ _) nq), R5.out.below (below_drewN (Below.refl _ _) nq)⟩
              case round =>
                obtain ⟨j, hj, rfl, hB, hR⟩ := hrel
                have B6 := Lib.hid hB
                have R6 := Lib.hid hR
                clear hB hR
                by_cases hjq : j < q
                · have hjI : (j : Int) < (q : Int) := by omega
                  have hj0 : (0 : Int) ≤ (j : Int) := by omega
                  have hjH : (j : Int) < (m : Int) := by omega
                  obtain ⟨⟨yf, yt⟩, hy⟩ := HG.out j (by omega)
                  obtain ⟨g1, e1, b0, b1⟩ := R6.out j _ hy
                  simp only [Option.some.injEq, Addr.mk.injEq, and_true] at e1
                  subst e1
                  obtain ⟨g2, e2, d0, d1⟩ := R6.out q _ HX.out
                  simp only [Option.some.injEq, Addr.mk.injEq, and_true] at e2
                  subst e2
                  replace b0 : wr.cell? ⟨gl, j * 2, none⟩ = some (.int .i64 yf) := b0
                  replace b1 : wr.cell? ⟨gl, j * 2 + 1, none⟩ = some (.int .i64 yt) := b1
                  replace d0 : wr.cell? ⟨gl, q * 2, none⟩ = some (.int .i64 xf) := d0
                  replace d1 : wr.cell? ⟨gl, q * 2 + 1, none⟩ = some (.int .i64 xt) := d1
                  have hye : 0 ≤ yf ∧ yf < yt ∧ yt ≤ 100 := A3.out.el hy
                  have hdis : yt ≤ xf ∨ xt ≤ yf := A3.out.two hjq HX.out hy
                  clear hy
                  rcases hdis with hd | hd
                  · have f1 : ¬ xf < yf := by omega
                    have f2 : yt < xt := by omega
                    have f3 : ¬ xf < yt := by omega
                    go_wp2_with fail
                    go_quiet (fail)
                    go_wp2_with fail
                    go_roundw
                    case rel => exact ⟨j + 1, by omega, by go_num, B6.out.below (below_drewN (Below.refl _ _) _), R6.out.below (below_drewN (Below.refl _ _) _)⟩
                    case measure => simp [intOf]; omega
                  · have f1 : xf < yf := by omega
                    have f2 : ¬ yt < xt := by omega
                    have f3 : ¬ yf < xt := by omega
                    go_wp2_with fail
                    go_quiet (fail)
                    go_wp2_with fail
                    go_roundw
                    case rel => exact ⟨j + 1, by omega, by go_num, B6.out.below (below_drewN (Below.refl _ _) _), R6.out.below (below_drewN (Below.refl _ _) _)⟩
                    case measure => simp [intOf]; omega
                · obtain rfl : j = q := by omega
                  have hjI : ¬ ((j : Int) < (j : Int)) := by omega
                  go_wp2_with fail
                  go_roundw
                  case rel => exact ⟨j + 1, by omega, by go_num, congrArg (Value.int .i64) T3.out.symm, B6.out, R6.out⟩
                  case measure => simp [intOf]; omega
            · obtain rfl : m = q := by omega
              have hqI : ¬ ((m : Int) < (m : Int)) := by omega
              have hE : total (List.take m H) + cnt s.p s.n = 100 := by rw [show List.take m H = H from HTL.out]; exact A3.out.sum
              have HFR := Lib.hid (io_free B5.out.1 A3.out.good)
              have hcn := cnt_in s.p s.n
              generalize cnt s.p s.n = cf at *
              generalize total (List.take m H) = tf at *
              obtain rfl : tf = 100 - cf := by omega
              have hE2 : 100 - cf + cf = 100 := by omega
              clear hE
              go_wp2_with (first
                | (go_at_call 11; (with_reducible refine HFR.out.mono ?_); rintro e w6 ⟨rfl, hb⟩; have B7 := Lib.hid (B5.out.below hb); clear hb)
                | fail)
              go_roundw
              case rel => exact ⟨k + 1, s, H, by omega, by go_num, B7.out, A3.out, by have := HMM.out; omega⟩
              case measure => simp [intOf]; omega
        · by_cases hom : on < (m : Int)
          · have hd1 : 0 ≤ on := by omega
            have hd2 : decide (0 ≤ on) = true := by simpa using hd1
            have hd3 : decide (on < (m : Int)) = true := by simpa using hom
            obtain ⟨q, hqe⟩ : ∃ q : Nat, on.toNat = q := ⟨_, rfl⟩
            obtain rfl : on = (q : Int) := by omega
            clear hqe
            have hqm : q < m := by omega
            obtain ⟨⟨af, at'⟩, hx⟩ := ex_get (l := H) (k := q) (by rw [HMM.out]; exact hqm)
            obtain ⟨gl, rfl, a0, a1⟩ := RD3.out q _ hx
            replace a0 : wr.cell? ⟨gl, q * 2, none⟩ = some (.int .i64 af) := a0
            replace a1 : wr.cell? ⟨gl, q * 2 + 1, none⟩ = some (.int .i64 at') := a1
            obtain ⟨e1, e2, hA5⟩ := A3.out.give hx
            have A5 := Lib.hid hA5
            have HGV := Lib.hid (fun W (h : BK w W b s w.heap.size (.slice (some ⟨gl, 0, none⟩) m dd) H []) => bk_give h A3.out.good ⟨af, at'⟩ e1 e2)
            have hl1 : (H.take q).length = q := by rw [List.length_take, HMM.out]; omega
            have hl2 : (H.drop (q + 1)).length = m - (q + 1) := by rw [List.length_drop, HMM.out]
            have hl3 : (H.take q ++ H.drop (q + 1)).length = m - 1 := by rw [List.length_append, hl1, hl2]; omega
            have L1 := Lib.hid hl1
            have L2 := Lib.hid hl2
            obtain ⟨m2, hm2⟩ : ∃ m2, m - 1 = m2 := ⟨_, rfl⟩
            rw [hm2] at hl3
            have hm2k : m2 ≤ k := by omega
            have L3 := Lib.hid hl3
            clear hm2
            have BA := Lib.hid (B4.out.below ((Below.refl _ _).alloc (Nat.le_refl _) (.cells #[.int .i64 af, .int .i64 at'] 30)))
            clear hx e1 e2 hA5 hl1 hl2 hl3
            go_wp2_with fail
            go_at_call 17
            (with_reducible refine (HGV.out _ BA.out).out.mono ?_)
            rintro e wG ⟨rfl, hB⟩
            have BG := Lib.hid hB
            have g1 := HAT.out _ hB.bel
            have hlst := hB.2.1.lst
            have S1 := Lib.hid (fun W (hW : Below wG.heap.size wG W) => show Srcs W (.slice (some ⟨gl, 0, none⟩) q dd) (H.take q) from by
              have := ((hlst.below hW).take q).srcs0 (c := dd)
              rw [L1.out] at this; exact this)
            have S2 := Lib.hid (fun W (hW : Below wG.heap.size wG W) c => show Srcs W (.slice (some ⟨gl, (q + 1) * 2, none⟩) (m - (q + 1)) c) (H.drop (q + 1)) from by
              have := (hlst.below hW).srcs (c := c) (q + 1)
              rw [HMM.out] at this; exact this)
            have S3 := Lib.hid (fun W (he : m = q + 1) => show Srcs W (.slice (some ⟨gl, 0, none⟩) 0 0) (H.drop (q + 1)) from by
              rw [show H.drop (q + 1) = [] from List.drop_eq_nil_of_le (by rw [HMM.out]; omega)]; exact srcs_empty W gl 0 0)
            have O1 := Lib.hid (Owns.lit (w := wG) (base := wG.heap.size) (Nat.le_refl _))
            have W1 := Lib.hid (show Below wG.heap.size wG (wG.alloc (.cells #[] 30)) from (Below.refl _ _).alloc (Nat.le_refl _) _)
            have G1 := Lib.hid (fun W (hW : Below wG.heap.size wG W) => HAT.out W (BG.out.bel.trans (hW.mono BG.out.bel.size)))
            have g2 := G1.out _ W1.out
            clear hB hlst
            have hq0 : (0 : Int) ≤ (q : Int) := by omega
            have hqI : (q : Int) < (m : Int) := by omega
            have hqd : q ≤ dd := by omega
            by_cases hde : dd = q + 1
            · have hme : m = q + 1 := by omega
              subst hde
              subst hme
              go_wp2_with (first
                | (at_builtin; refine wpList_own0 (w0 := wG) (L := q) (lm := H.take q) rfl (.tmp 75) (.tmp 82) rfl rfl O1.out W1.out (S1.out _ W1.out) rfl (by omega) (List.nil_append _) L1.out ?_; intro g3 cap3 w3 hA hB; have A2 := Lib.hid hA; have B2 := Lib.hid hB; have g3c := G1.out _ hB; clear hA hB)
                | (at_builtin; refine wpList_own0 (w0 := wG) (L := m2) (lm := H.take q ++ H.drop (q + 1)) rfl (.tmp 84) (.tmp 92) rfl rfl A2.out B2.out (S3.out _ (by first | rfl | trivial)) rfl (by omega) rfl L3.out ?_; intro g4 cap4 w4 hA hB; have A7 := Lib.hid hA; have B7' := Lib.hid hB; clear hA hB)
                | fail)
              have B9 := BG.out.other (A7.out.mono BG.out.bel.size) B7'.out (fun k hk => (A7.out.lt hk).1)
              have B9 := Lib.hid B9
              clear A7 B7' A2 B2 S1 S2 S3 O1 W1 G1 HGV BA L1 L2 RD3
              generalize hH2 : H.take q ++ H.drop (q + 1) = H2 at A5 L3 B9
              generalize set s ⟨af, at'⟩ true = s2 at A5 B9 BG
              obtain ⟨B0', dd', hve, hdd', hrd⟩ := B9.out.2.1.rd
              simp only [Value.slice.injEq] at hve
              obtain ⟨rfl, hm, rfl⟩ := hve
              rw [L3.out] at hdd'
              have RD := Lib.hid hrd
              have HTS := Lib.hid (fun i x hx => total_snoc (l := H2) (k := i) (x := x) hx)
              have HG := Lib.hid (fun a (ha : a < m2) => ex_get (l := H2) (k := a) (by omega))
              have HTL := Lib.hid (show List.take m2 H2 = H2 from by rw [hm]; simp)
              clear hrd hm
              go_loopw [10, 11] (fun nv kv wq => ∃ q : Nat, q ≤ m2 ∧ kv = .int .i64 q ∧ nv = .int .i64 (total (List.take q H2)) ∧ BK w wq b s2 w.heap.size (.slice (some ⟨g4, 0, none⟩) m2 cap4) H2 [] ∧ Rd wq (some ⟨g4, 0, none⟩) H2) (fun _ kv _ => m2 - (intOf kv).toNat)
              case atStart => exact ⟨0, Nat.zero_le _, rfl, rfl, B9.out, RD.out⟩
              case round =>
                obtain ⟨q, hq, rfl, rfl, hB, hR⟩ := hrel
                have B5 := Lib.hid hB
                have R5 := Lib.hid hR
                clear hB hR
                have t1 := A5.out.bound q
                by_cases hqH : q < m2
                · have hqI : (q : Int) < (m2 : Int) := by omega
                  have hq0 : (0 : Int) ≤ (q : Int) := by omega
                  obtain ⟨⟨xf, xt⟩, hx⟩ := HG.out q hqH
                  obtain ⟨gz, hgz, a0, a1⟩ := R5.out q _ hx
                  simp only [Option.some.injEq, Addr.mk.injEq, and_true] at hgz
                  subst hgz
                  replace a0 : wr.cell? ⟨g4, q * 2, none⟩ = some (.int .i64 xf) := a0
                  replace a1 : wr.cell? ⟨g4, q * 2 + 1, none⟩ = some (.int .i64 xt) := a1
                  have hxe : 0 ≤ xf ∧ xf < xt ∧ xt ≤ 100 := A5.out.el hx
                  have t2 := A5.out.bound (q + 1)
                  have t3 : total (List.take (q + 1) H2) = total (List.take q H2) + (xt - xf) := HTS.out q _ hx
                  have t4 : total (List.take q H2) + (xt - xf) ≤ 100 := by omega
                  have t5 : 0 ≤ total (List.take q H2) + (xt - xf) := by omega
                  have T3 := Lib.hid t3
                  have HX := Lib.hid hx
                  clear hx t3 t2
                  go_wp2_with fail
                  go_quiet (fail)
                  go_wp2_with fail
                  go_loopw [12] (fun jv wz => ∃ j : Nat, j ≤ q ∧ jv = .int .i64 j ∧ BK w wz b s2 w.heap.size (.slice (some ⟨g4, 0, none⟩) m2 cap4) H2 [] ∧ Rd wz (some ⟨g4, 0, none⟩) H2) (fun jv _ => q - (intOf jv).toNat)
                  case atStart => exact ⟨0, Nat.zero_le _, rfl, B5.out.below (below_drewN (Below.refl _ _) nq), R5.out.below (below_drewN (Below.refl _ _) nq)⟩
                  case round =>
                    obtain ⟨j, hj, rfl, hB, hR⟩ := hrel
                    have B6 := Lib.hid hB
                    have R6 := Lib.hid hR
                    clear hB hR
                    by_cases hjq : j < q
                    · have hjI : (j : Int) < (q : Int) := by omega
                      have hj0 : (0 : Int) ≤ (j : Int) := by omega
                      have hjH : (j : Int) < (m2 : Int) := by omega
                      obtain ⟨⟨yf, yt⟩, hy⟩ := HG.out j (by omega)
                      obtain ⟨g1, e1, b0, b1⟩ := R6.out j _ hy
                      simp only [Option.some.injEq, Addr.mk.injEq, and_true] at e1
                      subst e1
                      obtain ⟨g2, e2, d0, d1⟩ := R6.out q _ HX.out
                      simp only [Option.some.injEq, Addr.mk.injEq, and_true] at e2
                      subst e2
                      replace b0 : wr.cell? ⟨g4, j * 2, none⟩ = some (.int .i64 yf) := b0
                      replace b1 : wr.cell? ⟨g4, j * 2 + 1, none⟩ = some (.int .i64 yt) := b1
                      replace d0 : wr.cell? ⟨g4, q * 2, none⟩ = some (.int .i64 xf) := d0
                      replace d1 : wr.cell? ⟨g4, q * 2 + 1, none⟩ = some (.int .i64 xt) := d1
                      have hye : 0 ≤ yf ∧ yf < yt ∧ yt ≤ 100 := A5.out.el hy
                      have hdis : yt ≤ xf ∨ xt ≤ yf := A5.out.two hjq HX.out hy
                      clear hy
                      rcases hdis with hd | hd
                      · have f1 : ¬ xf < yf := by omega
                        have f2 : yt < xt := by omega
                        have f3 : ¬ xf < yt := by omega
                        go_wp2_with fail
                        go_quiet (fail)
                        go_wp2_with fail
                        go_roundw
                        case rel => exact ⟨j + 1, by omega, by go_num, B6.out.below (below_drewN (Below.refl _ _) _), R6.out.below (below_drewN (Below.refl _ _) _)⟩
                        case measure => simp [intOf]; omega
                      · have f1 : xf < yf := by omega
                        have f2 : ¬ yt < xt := by omega
                        have f3 : ¬ yf < xt := by omega
                        go_wp2_with fail
                        go_quiet (fail)
                        go_wp2_with fail
                        go_roundw
                        case rel => exact ⟨j + 1, by omega, by go_num, B6.out.below (below_drewN (Below.refl _ _) _), R6.out.below (below_drewN (Below.refl _ _) _)⟩
                        case measure => simp [intOf]; omega
                    · obtain rfl : j = q := by omega
                      have hjI : ¬ ((j : Int) < (j : Int)) := by omega
                      go_wp2_with fail
                      go_roundw
                      case rel => exact ⟨j + 1, by omega, by go_num, congrArg (Value.int .i64) T3.out.symm, B6.out, R6.out⟩
                      case measure => simp [intOf]; omega
                · obtain rfl : m2 = q := by omega
                  have hqI : ¬ ((m2 : Int) < (m2 : Int)) := by omega
                  have hE : total (List.take m2 H2) + cnt s2.p s2.n = 100 := by rw [show List.take m2 H2 = H2 from HTL.out]; exact A5.out.sum
                  have HFR := Lib.hid (io_free B5.out.1 A5.out.good)
                  have hcn := cnt_in s2.p s2.n
                  generalize cnt s2.p s2.n = cf at *
                  generalize total (List.take m2 H2) = tf at *
                  obtain rfl : tf = 100 - cf := by omega
                  have hE2 : 100 - cf + cf = 100 := by omega
                  clear hE
                  go_wp2_with (first
                    | (go_at_call 11; (with_reducible refine HFR.out.mono ?_); rintro e w6 ⟨rfl, hb⟩; have B7 := Lib.hid (B5.out.below hb); clear hb)
                    | fail)
                  go_roundw
                  case rel => exact ⟨k + 1, s2, H2, by omega, by go_num, B7.out, A5.out, by have := L3.out; omega⟩
                  case measure => simp [intOf]; omega
            · have hde2 : ¬ (q + 1 = dd) := fun e => hde e.symm
              have hlt2 : q + 1 < dd := by omega
              go_wp2_with (first
                | (at_builtin; refine wpList_own0 (w0 := wG) (L := q) (lm := H.take q) rfl (.tmp 75) (.tmp 82) rfl rfl O1.out W1.out (S1.out _ W1.out) rfl (by omega) (List.nil_append _) L1.out ?_; intro g3 cap3 w3 hA hB; have A2 := Lib.hid hA; have B2 := Lib.hid hB; have g3c := G1.out _ hB; clear hA hB)
                | (at_builtin; refine wpList_own0 (w0 := wG) (L := m2) (lm := H.take q ++ H.drop (q + 1)) rfl (.tmp 84) (.tmp 92) rfl rfl A2.out B2.out (S2.out _ B2.out _) rfl (by omega) rfl L3.out ?_; intro g4 cap4 w4 hA hB; have A7 := Lib.hid hA; have B7' := Lib.hid hB; clear hA hB)
                | fail)
              have B9 := BG.out.other (A7.out.mono BG.out.bel.size) B7'.out (fun k hk => (A7.out.lt hk).1)
              have B9 := Lib.hid B9
              clear A7 B7' A2 B2 S1 S2 S3 O1 W1 G1 HGV BA L1 L2 RD3
              generalize hH2 : H.take q ++ H.drop (q + 1) = H2 at A5 L3 B9
              generalize set s ⟨af, at'⟩ true = s2 at A5 B9 BG
              obtain ⟨B0', dd', hve, hdd', hrd⟩ := B9.out.2.1.rd
              simp only [Value.slice.injEq] at hve
              obtain ⟨rfl, hm, rfl⟩ := hve
              rw [L3.out] at hdd'
              have RD := Lib.hid hrd
              have HTS := Lib.hid (fun i x hx => total_snoc (l := H2) (k := i) (x := x) hx)
              have HG := Lib.hid (fun a (ha : a < m2) => ex_get (l := H2) (k := a) (by omega))
              have HTL := Lib.hid (show List.take m2 H2 = H2 from by rw [hm]; simp)
              clear hrd hm
              go_loopw [10, 11] (fun nv kv wq => ∃ q : Nat, q ≤ m2 ∧ kv = .int .i64 q ∧ nv = .int .i64 (total (List.take q H2)) ∧ BK w wq b s2 w.heap.size (.slice (some ⟨g4, 0, none⟩) m2 cap4) H2 [] ∧ Rd wq (some ⟨g4, 0, none⟩) H2) (fun _ kv _ => m2 - (intOf kv).toNat)
              case atStart => exact ⟨0, Nat.zero_le _, rfl, rfl, B9.out, RD.out⟩
              case round =>
                obtain ⟨q, hq, rfl, rfl, hB, hR⟩ := hrel
                have B5 := Lib.hid hB
                have R5 := Lib.hid hR
                clear hB hR
                have t1 := A5.out.bound q
                by_cases hqH : q < m2
                · have hqI : (q : Int) < (m2 : Int) := by omega
                  have hq0 : (0 : Int) ≤ (q : Int) := by omega
                  obtain ⟨⟨xf, xt⟩, hx⟩ := HG.out q hqH
                  obtain ⟨gz, hgz, a0, a1⟩ := R5.out q _ hx
                  simp only [Option.some.injEq, Addr.mk.injEq, and_true] at hgz
                  subst hgz
                  replace a0 : wr.cell? ⟨g4, q * 2, none⟩ = some (.int .i64 xf) := a0
                  replace a1 : wr.cell? ⟨g4, q * 2 + 1, none⟩ = some (.int .i64 xt) := a1
                  have hxe : 0 ≤ xf ∧ xf < xt ∧ xt ≤ 100 := A5.out.el hx
                  have t2 := A5.out.bound (q + 1)
                  have t3 : total (List.take (q + 1) H2) = total (List.take q H2) + (xt - xf) := HTS.out q _ hx
                  have t4 : total (List.take q H2) + (xt - xf) ≤ 100 := by omega
                  have t5 : 0 ≤ total (List.take q H2) + (xt - xf) := by omega
                  have T3 := Lib.hid t3
                  have HX := Lib.hid hx
                  clear hx t3 t2
                  go_wp2_with fail
                  go_quiet (fail)
                  go_wp2_with fail
                  go_loopw [12] (fun jv wz => ∃ j : Nat, j ≤ q ∧ jv = .int .i64 j ∧ BK w wz b s2 w.heap.size (.slice (some ⟨g4, 0, none⟩) m2 cap4) H2 [] ∧ Rd wz (some ⟨g4, 0, none⟩) H2) (fun jv _ => q - (intOf jv).toNat)
                  case atStart => exact ⟨0, Nat.zero_le _, rfl, B5.out.below (below_drewN (Below.refl _ _) nq), R5.out.below (below_drewN (Below.refl _ _) nq)⟩
                  case round =>
                    obtain ⟨j, hj, rfl, hB, hR⟩ := hrel
                    have B6 := Lib.hid hB
                    have R6 := Lib.hid hR
                    clear hB hR
                    by_cases hjq : j < q
                    · have hjI : (j : Int) < (q : Int) := by omega
                      have hj0 : (0 : Int) ≤ (j : Int) := by omega
                      have hjH : (j : Int) < (m2 : Int) := by omega
                      obtain ⟨⟨yf, yt⟩, hy⟩ := HG.out j (by omega)
                      obtain ⟨g1, e1, b0, b1⟩ := R6.out j _ hy
                      simp only [Option.some.injEq, Addr.mk.injEq, and_true] at e1
                      subst e1
                      obtain ⟨g2, e2, d0, d1⟩ := R6.out q _ HX.out
                      simp only [Option.some.injEq, Addr.mk.injEq, and_true] at e2
                      subst e2
                      replace b0 : wr.cell? ⟨g4, j * 2, none⟩ = some (.int .i64 yf) := b0
                      replace b1 : wr.cell? ⟨g4, j * 2 + 1, none⟩ = some (.int .i64 yt) := b1
                      replace d0 : wr.cell? ⟨g4, q * 2, none⟩ = some (.int .i64 xf) := d0
                      replace d1 : wr.cell? ⟨g4, q * 2 + 1, none⟩ = some (.int .i64 xt) := d1
                      have hye : 0 ≤ yf ∧ yf < yt ∧ yt ≤ 100 := A5.out.el hy
                      have hdis : yt ≤ xf ∨ xt ≤ yf := A5.out.two hjq HX.out hy
                      clear hy
                      rcases hdis with hd | hd
                      · have f1 : ¬ xf < yf := by omega
                        have f2 : yt < xt := by omega
                        have f3 : ¬ xf < yt := by omega
                        go_wp2_with fail
                        go_quiet (fail)
                        go_wp2_with fail
                        go_roundw
                        case rel => exact ⟨j + 1, by omega, by go_num, B6.out.below (below_drewN (Below.refl _ _) _), R6.out.below (below_drewN (Below.refl _ _) _)⟩
                        case measure => simp [intOf]; omega
                      · have f1 : xf < yf := by omega
                        have f2 : ¬ yt < xt := by omega
                        have f3 : ¬ yf < xt := by omega
                        go_wp2_with fail
                        go_quiet (fail)
                        go_wp2_with fail
                        go_roundw
                        case rel => exact ⟨j + 1, by omega, by go_num, B6.out.below (below_drewN (Below.refl _ _) _), R6.out.below (below_drewN (Below.refl _ _) _)⟩
                        case measure => simp [intOf]; omega
                    · obtain rfl : j = q := by omega
                      have hjI : ¬ ((j : Int) < (j : Int)) := by omega
                      go_wp2_with fail
                      go_roundw
                      case rel => exact ⟨j + 1, by omega, by go_num, congrArg (Value.int .i64) T3.out.symm, B6.out, R6.out⟩
                      case measure => simp [intOf]; omega
                · obtain rfl : m2 = q := by omega
                  have hqI : ¬ ((m2 : Int) < (m2 : Int)) := by omega
                  have hE : total (List.take m2 H2) + cnt s2.p s2.n = 100 := by rw [show List.take m2 H2 = H2 from HTL.out]; exact A5.out.sum
                  have HFR := Lib.hid (io_free B5.out.1 A5.out.good)
                  have hcn := cnt_in s2.p s2.n
                  generalize cnt s2.p s2.n = cf at *
                  generalize total (List.take m2 H2) = tf at *
                  obtain rfl : tf = 100 - cf := by omega
                  have hE2 : 100 - cf + cf = 100 := by omega
                  clear hE
                  go_wp2_with (first
                    | (go_at_call 11; (with_reducible refine HFR.out.mono ?_); rintro e w6 ⟨rfl, hb⟩; have B7 := Lib.hid (B5.out.below hb); clear hb)
                    | fail)
                  go_roundw
                  case rel => exact ⟨k + 1, s2, H2, by omega, by go_num, B7.out, A5.out, by have := L3.out; omega⟩
                  case measure => simp [intOf]; omega
          · have hd1 : 0 ≤ on := by omega
            have hd2 : decide (0 ≤ on) = true := by simpa using hd1
            have hd3 : decide (on < (m : Int)) = false := by simpa using hom
            obtain ⟨B0', dd', hve, hdd', hrd⟩ := B4.out.2.1.rd
            simp only [Value.slice.injEq] at hve
            obtain ⟨rfl, hm, rfl⟩ := hve
            rw [HMM.out] at hdd'
            have RD := Lib.hid hrd
            have HTS := Lib.hid (fun i x hx => total_snoc (l := H) (k := i) (x := x) hx)
            have HG := Lib.hid (fun a (ha : a < m) => ex_get (l := H) (k := a) (by omega))
            have HTL := Lib.hid (show List.take m H = H from by rw [hm]; simp)
            clear hrd hm
            go_wp2_with fail
            go_loopw [10, 11] (fun nv kv wq => ∃ q : Nat, q ≤ m ∧ kv = .int .i64 q ∧ nv = .int .i64 (total (List.take q H)) ∧ BK w wq b s w.heap.size (.slice B0 m dd) H [] ∧ Rd wq B0 H) (fun _ kv _ => m - (intOf kv).toNat)
            case atStart => exact ⟨0, Nat.zero_le _, rfl, rfl, B4.out, RD.out⟩
            case round =>
              obtain ⟨q, hq, rfl, rfl, hB, hR⟩ := hrel
              have B5 := Lib.hid hB
              have R5 := Lib.hid hR
              clear hB hR
              have t1 := A3.out.bound q
              by_cases hqH : q < m
              · have hqI : (q : Int) < (m : Int) := by omega
                have hq0 : (0 : Int) ≤ (q : Int) := by omega
                obtain ⟨⟨xf, xt⟩, hx⟩ := HG.out q hqH
                obtain ⟨gl, rfl, a0, a1⟩ := R5.out q _ hx
                replace a0 : wr.cell? ⟨gl, q * 2, none⟩ = some (.int .i64 xf) := a0
                replace a1 : wr.cell? ⟨gl, q * 2 + 1, none⟩ = some (.int .i64 xt) := a1
                have hxe : 0 ≤ xf ∧ xf < xt ∧ xt ≤ 100 := A3.out.el hx
                have t2 := A3.out.bound (q + 1)
                have t3 : total (List.take (q + 1) H) = total (List.take q H) + (xt - xf) := HTS.out q _ hx
                have t4 : total (List.take q H) + (xt - xf) ≤ 100 := by omega
                have t5 : 0 ≤ total (List.take q H) + (xt - xf) := by omega
                have T3 := Lib.hid t3
                have HX := Lib.hid hx
                clear hx t3 t2
                go_wp2_with fail
                go_quiet (fail)
                go_wp2_with fail
                go_loopw [12] (fun jv wz => ∃ j : Nat, j ≤ q ∧ jv = .int .i64 j ∧ BK w wz b s w.heap.size (.slice (some ⟨gl, 0, none⟩) m dd) H [] ∧ Rd wz (some ⟨gl, 0, none⟩) H) (fun jv _ => q - (intOf jv).toNat)
                case atStart => exact ⟨0, Nat.zero_le _, rfl, B5.out.below (below_drewN (Below.refl _ _) nq), R5.out.below (below_drewN (Below.refl _ _) nq)⟩
                case round =>
                  obtain ⟨j, hj, rfl, hB, hR⟩ := hrel
                  have B6 := Lib.hid hB
                  have R6 := Lib.hid hR
                  clear hB hR
                  by_cases hjq : j < q
                  · have hjI : (j : Int) < (q : Int) := by omega
                    have hj0 : (0 : Int) ≤ (j : Int) := by omega
                    have hjH : (j : Int) < (m : Int) := by omega
                    obtain ⟨⟨yf, yt⟩, hy⟩ := HG.out j (by omega)
                    obtain ⟨g1, e1, b0, b1⟩ := R6.out j _ hy
                    simp only [Option.some.injEq, Addr.mk.injEq, and_true] at e1
                    subst e1
                    obtain ⟨g2, e2, d0, d1⟩ := R6.out q _ HX.out
                    simp only [Option.some.injEq, Addr.mk.injEq, and_true] at e2
                    subst e2
                    replace b0 : wr.cell? ⟨gl, j * 2, none⟩ = some (.int .i64 yf) := b0
                    replace b1 : wr.cell? ⟨gl, j * 2 + 1, none⟩ = some (.int .i64 yt) := b1
                    replace d0 : wr.cell? ⟨gl, q * 2, none⟩ = some (.int .i64 xf) := d0
                    replace d1 : wr.cell? ⟨gl, q * 2 + 1, none⟩ = some (.int .i64 xt) := d1
                    have hye : 0 ≤ yf ∧ yf < yt ∧ yt ≤ 100 := A3.out.el hy
                    have hdis : yt ≤ xf ∨ xt ≤ yf := A3.out.two hjq HX.out hy
                    clear hy
                    rcases hdis with hd | hd
                    · have f1 : ¬ xf < yf := by omega
                      have f2 : yt < xt := by omega
                      have f3 : ¬ xf < yt := by omega
                      go_wp2_with fail
                      go_quiet (fail)
                      go_wp2_with fail
                      go_roundw
                      case rel => exact ⟨j + 1, by omega, by go_num, B6.out.below (below_drewN (Below.refl _ _) _), R6.out.below (below_drewN (Below.refl _ _) _)⟩
                      case measure => simp [intOf]; omega
                    · have f1 : xf < yf := by omega
                      have f2 : ¬ yt < xt := by omega
                      have f3 : ¬ yf < xt := by omega
                      go_wp2_with fail
                      go_quiet (fail)
                      go_wp2_with fail
                      go_roundw
                      case rel => exact ⟨j + 1, by omega, by go_num, B6.out.below (below_drewN (Below.refl _ _) _), R6.out.below (below_drewN (Below.refl _ _) _)⟩
                      case measure => simp [intOf]; omega
                  · obtain rfl : j = q := by omega
                    have hjI : ¬ ((j : Int) < (j : Int)) := by omega
                    go_wp2_with fail
                    go_roundw
                    case rel => exact ⟨j + 1, by omega, by go_num, congrArg (Value.int .i64) T3.out.symm, B6.out, R6.out⟩
                    case measure => simp [intOf]; omega
              · obtain rfl : m = q := by omega
                have hqI : ¬ ((m : Int) < (m : Int)) := by omega
                have hE : total (List.take m H) + cnt s.p s.n = 100 := by rw [show List.take m H = H from HTL.out]; exact A3.out.sum
                have HFR := Lib.hid (io_free B5.out.1 A3.out.good)
                have hcn := cnt_in s.p s.n
                generalize cnt s.p s.n = cf at *
                generalize total (List.take m H) = tf at *
                obtain rfl : tf = 100 - cf := by omega
                have hE2 : 100 - cf + cf = 100 := by omega
                clear hE
                go_wp2_with (first
                  | (go_at_call 11; (with_reducible refine HFR.out.mono ?_); rintro e w6 ⟨rfl, hb⟩; have B7 := Lib.hid (B5.out.below hb); clear hb)
                  | fail)
                go_roundw
                case rel => exact ⟨k + 1, s, H, by omega, by go_num, B7.out, A3.out, by have := HMM.out; omega⟩
                case measure => simp [intOf]; omega
    · have hlI : ¬ ((k : Int) < (n : Int)) := by omega
      go_wp2_with (go_at_call 24; (with_reducible refine (HSH.out _ B3.out.bel).mono ?_); rintro e w7 ⟨rfl, hb⟩; have P7 := Lib.hid hb; clear hb)
      go_ret
      exact ⟨rfl, P7.out⟩
end Go.Proofs.Ytlffgfkcgldekaa
