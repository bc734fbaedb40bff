/-
  ClockSame, walked.
-/
import Derived.Test.YtdkkoeiceaolnaaBuilt
namespace Go.Proofs.Ytdkkoeiceaolnaa
open Go.RowKit

theorem one_slice (R : Nat) : ∀ u ∈ [Value.slice (some ⟨R, 0, none⟩) 3 3], u.oneCell' = true := fun u hu => by
  rw [List.mem_singleton] at hu; subst hu; rfl
theorem news_one (w : World) (v : Value) (t : TypeId) : ∀ j u, [v][j]? = some u → (w.alloc (.cells #[v] t)).cell? ((⟨w.heap.size, 0, none⟩ : Addr).add j) = some u :=
  fun q u hu => World.news_of_block (cs := #[v]) (t := t) (fr := (0, 0)) (heap_alloc_new w _) q u hu

set_option maxRecDepth 100000 in
set_option maxHeartbeats 4000000 in
theorem alike_any (A : Option Addr) (n c : Nat) (z : Nat → Int) (num slack m : Int) (w : World) (hc : n ≤ 9223372036854775807) (hS : Bts w A n z) (h1 : 0 ≤ num ∧ num ≤ 255) (h2 : 0 ≤ slack ∧ slack ≤ 255) (h3 : 0 ≤ m ∧ m ≤ 255) :
    Calls Try.prog 7 #[.slice A n c, .int .u8 num, .int .u8 slack, .int .u8 m] w fun e w' => e = .returned (.bool true) ∧ Below w.heap.size w w' := by
  have HT := Lib.hid margin_ten
  obtain ⟨n0, n1⟩ := h1
  obtain ⟨s0, s1⟩ := h2
  obtain ⟨m0, m1⟩ := h3
  by_cases hn : n ≤ 25
  · have hnI : ¬ ((25 : Int) < (n : Int)) := by omega
    obtain ⟨p, rfl⟩ : ∃ p : Nat, m = p := ⟨m.toNat, by omega⟩
    have hA : (p : Int).tmod 3 = ((p % 3 : Nat) : Int) := (Int.ofNat_tmod p 3).symm
    have ha : p % 3 < 3 := Nat.mod_lt _ (by omega)
    generalize p % 3 = q at hA ha
    obtain ⟨i0, hi0, hz0, hz1, hz2⟩ := info_parts infoRows
    have HS := Lib.hid hS
    have HB0 := Lib.hid (built_new w (eqz z))
    have HL0 := Lib.hid ((Below.refl w.heap.size w).alloc (Nat.le_refl _) (.cells #[] 28))
    clear hS
    go_enter Try.func7, Try.ntmps7
    go_wp2
    go_loopw [9, 10] (fun v9 v10 wr => ∃ j g cap : Nat, j ≤ n ∧ v10 = .int .i64 j ∧ v9 = .slice (some ⟨g, 0, none⟩) j cap ∧ Built w.heap.size wr g cap j (eqz z) ∧ Below w.heap.size w wr) (fun _ v _ => n - (intOf v).toNat)
    case atStart => exact ⟨0, w.heap.size, 0, Nat.zero_le _, rfl, rfl, HB0.out, HL0.out⟩
    case round =>
      obtain ⟨j, g, cap, hj, rfl, rfl, k1, k2⟩ := hrel
      have KB := Lib.hid k1
      have KL := Lib.hid k2
      clear k1 k2 HB0 HL0
      by_cases hjn : j < n
      · obtain ⟨ab, ao, rfl, hx0, x0, x1⟩ := HS.out j hjn
        have hx := (KL.out.cell (p := ⟨ab, ao + j, none⟩) (cell_lt5 hx0)).trans hx0
        have hjI : (j : Int) < (n : Int) := by omega
        have HZ := Lib.hid (show eqz z j 0 = z j from rfl)
        clear hx0
        generalize hzj : z j = y at hx x0 x1 HZ
        go_wp2
        go_region
        obtain ⟨f, ho, hrs⟩ := KB.out.kept ((Below.refl _ wr).drew)
        have HO := Lib.hid ho
        have HRS := Lib.hid hrs
        have hwz : wr.drew.heap.size = wr.heap.size := rfl
        have KLd := Lib.hid (KL.out.drew)
        have hbs : w.heap.size ≤ wr.drew.heap.size := KLd.out.size
        have hz' : (wr.drew.alloc (.cells #[.int .i64 y, .int .i64 y, .int .i64 y] 3)).heap.size = wr.drew.heap.size + 1 := World.size_alloc _ _
        have HN := Lib.hid (show ∀ q u, [Value.slice (some ⟨wr.drew.heap.size, 0, none⟩) 3 3][q]? = some u → ((wr.drew.alloc (.cells #[.int .i64 y, .int .i64 y, .int .i64 y] 3)).alloc (.cells #[.slice (some ⟨wr.drew.heap.size, 0, none⟩) 3 3] 28)).cell? ((⟨wr.drew.heap.size + 1, 0, none⟩ : Addr).add q) = some u from fun q u hu => by rw [← hz']; exact news_one _ _ _ q u hu)
        have HY := Lib.hid hzj
        clear ho hrs KL hz' HZ hzj
        rw [show (wr.alloc (.cells #[.int .i64 y, .int .i64 y, .int .i64 y] 3)).drew = wr.drew.alloc (.cells #[.int .i64 y, .int .i64 y, .int .i64 y] 3) from rfl, ← hwz]
        clear hwz
        generalize wr.drew = Wd at HO HRS KLd hbs HN ⊢
        clear hx KB
        go_wp2_with (at_builtin; refine wpList_append_lies _ rfl (.tmp 50) (.tmp 52) 37 rfl w.heap.size 28 i0 _ 1 24 Try.underlying37 hi0 hz0 hz1 hz2 rfl (by decide) _ _ _ rfl (World.ownsRow.alloc (World.ownsRow.alloc HO.out _) _) ⟨Wd.heap.size + 1, 0, none⟩ 1 1 [.slice (some ⟨Wd.heap.size, 0, none⟩) 3 3] rfl rfl HN.out (one_slice _) (by omega) (by unfold maxLen; omega) (by omega) (by simp; omega) (Wd.heap.size + 1 + 1) (by simp) ?_; intro g2 cap2 w2 hown2 hgrow hat hlt2; obtain ⟨hB2, hL2⟩ := built_next hbs HO.out HRS.out (Below.refl _ _) HY.out.symm HY.out.symm HY.out.symm hown2 hgrow; have KB2 := Lib.hid hB2; have KL2 := Lib.hid (hL2 w rfl KLd.out); clear hown2 hgrow hat hlt2 hB2 hL2)
        go_roundw
        case rel => exact ⟨j + 1, g2, cap2, by omega, by go_num, rfl, KB2.out, KL2.out⟩
        case measure => simp [intOf]; omega
      · have hjI : ¬ ((j : Int) < (n : Int)) := by omega
        obtain rfl : n = j := by omega
        have HF1 := Lib.hid (fun k k1 k3 => same_fair HS.out hn n0 n1 s0 s1 KB.out k k1 k3)
        obtain ⟨f, ho, hrs⟩ := KB.out.congr (Z' := oddz z n slack) (fun r hr c _ => by unfold oddz; rw [if_pos hr])
        have HO := Lib.hid (fun w1 (hb : Below wr.heap.size wr w1) => owns_kept ho (hb.block g (owns_lt ho).2))
        have HA := Lib.hid (fun (w1 w2 : World) (g2 cap2 : Nat) (o2 : Obj) (hb : Below wr.heap.size wr w1) => built_next (w1 := w1) (w2 := w2) (g2 := g2) (cap2 := cap2) (o2 := o2) (x0 := 1 + slack) (x1 := 0) (x2 := 0) KL.out.size ho hrs hb (by unfold oddz; simp) (by unfold oddz; simp) (by unfold oddz; simp))
        have HF2 := Lib.hid (fun (W : World) (g cap : Nat) (hb : Built w.heap.size W g cap (n + 1) (oddz z n slack)) => odd_unfair HS.out hn n0 n1 s0 s1 hb)
        have HR2 := Lib.hid (fun (W : World) (g cap : Nat) (hb : Built w.heap.size W g cap (n + 1) (oddz z n slack)) => odd_runfair HS.out hn n0 n1 s0 s1 hb)
        have HN := Lib.hid (fun (w1 : World) => show ∀ q u, [Value.slice (some ⟨w1.heap.size, 0, none⟩) 3 3][q]? = some u → ((w1.alloc (.cells #[.int .i64 (1 + slack), .int .i64 0, .int .i64 0] 3)).alloc (.cells #[.slice (some ⟨w1.heap.size, 0, none⟩) 3 3] 28)).cell? ((⟨w1.heap.size + 1, 0, none⟩ : Addr).add q) = some u from fun q u hu => by rw [← World.size_alloc w1 (.cells #[.int .i64 (1 + slack), .int .i64 0, .int .i64 0] 3)]; exact news_one _ _ _ q u hu)
        have hws := KL.out.size
        clear ho hrs
        go_wp2_with (first
          | (go_at_call 17; (with_reducible refine (HF1.out _ ?k1 ?k3).mono ?_); (case k1 => omega); (case k3 => omega); rintro e w1 ⟨rfl, hb1⟩; have KB1 := Lib.hid hb1; have hz1' := hb1.size; clear hb1)
          | (at_builtin; refine wpList_append_lies _ rfl (.tmp 72) (.tmp 74) 37 rfl w.heap.size 28 i0 _ 1 24 Try.underlying37 hi0 hz0 hz1 hz2 rfl (by decide) _ _ _ rfl (World.ownsRow.alloc (World.ownsRow.alloc (HO.out w1 KB1.out) _) _) ⟨w1.heap.size + 1, 0, none⟩ 1 1 [.slice (some ⟨w1.heap.size, 0, none⟩) 3 3] rfl rfl (HN.out w1) (one_slice _) (by omega) (by unfold maxLen; omega) (by omega) (by simp; omega) (w1.heap.size + 1 + 1) (by simp) ?_; intro g2 cap2 w2 hown2 hgrow hat hlt2; obtain ⟨hB2, hL2⟩ := HA.out _ _ _ _ _ KB1.out hown2 hgrow; have KB2 := Lib.hid hB2; have KL2 := Lib.hid (hL2 w rfl KL.out); clear hown2 hgrow hat hlt2 hB2 hL2)
          | (go_at_call 17; (with_reducible refine (HF2.out _ _ _ KB2.out).mono ?_); rintro e w3 ⟨rfl, hb3⟩; have KB3 := Lib.hid hb3; clear hb3)
          | (go_at_call 18; (with_reducible refine (HR2.out _ _ _ (KB2.out.kept KB3.out)).mono ?_); rintro e w' ⟨rfl, rfl⟩)
          | (go_at_call 19; (with_reducible refine (HT.out _).mono ?_); rintro e w5 ⟨rfl, hb5⟩; have KB5 := Lib.hid hb5; clear hb5))
        go_ret
        exact ⟨rfl, below_then (below_then KL2.out KB3.out) KB5.out⟩
  · have hnI : (25 : Int) < (n : Int) := by omega
    go_enter Try.func7, Try.ntmps7
    go_wp2_with (go_at_call 19; (with_reducible refine (HT.out _).mono ?_); rintro e w5 ⟨rfl, hb5⟩; have KB5 := Lib.hid hb5; clear hb5)
    go_ret
    exact ⟨rfl, KB5.out⟩
end Go.Proofs.Ytdkkoeiceaolnaa
