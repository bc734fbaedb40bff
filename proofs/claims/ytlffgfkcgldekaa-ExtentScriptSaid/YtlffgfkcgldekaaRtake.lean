/-
  The document's own (weirkeepref08): Take and Give, by contracts.
-/
import Derived.Test.YtlffgfkcgldekaaRlittle
namespace Go.Proofs.Ytlffgfkcgldekaa
open Go.RowKit

section
variable {b g : Nat} {s : St} {w : World}
theorem rmays (h : RBv w b s g) (r : Rg) : Hid (∀ W, Bx w r W → Calls Try.prog 32 #[.pointer (some ⟨b, 0, none⟩), .agg #[.int .i64 r.f, .int .i64 r.t]] W fun e w' => e = .returned (.int .i64 (mayE s r)) ∧ Bx w r w') :=
  fun W hW => (rmay_any b s g r W (h.below hW.below)).mono fun _ _ ⟨he, hb⟩ => ⟨he, hW.step hb⟩
theorem ralls (h : RBv w b s g) (r : Rg) (v : Bool) (hr : mayE s r = 0) (hn : s.n ≤ 4096) {a : Bool} (ha : allB s r v = a) : Hid (∀ W, Bx w r W → Calls Try.prog 33 #[.pointer (some ⟨b, 0, none⟩), .agg #[.int .i64 r.f, .int .i64 r.t], .bool v] W fun e w' => e = .returned (.bool a) ∧ Bx w r w') :=
  fun W hW => by subst ha; exact (rall_any b s g r v W (h.below hW.below) hr hn).mono fun _ _ ⟨he, hb⟩ => ⟨he, hW.step hb⟩
theorem rsets (h : RBv w b s g) (r : Rg) (v : Bool) (hr : mayE s r = 0) (hn : s.n ≤ 4096) : Hid (∀ W, Bx w r W → Calls Try.prog 28 #[.pointer (some ⟨b, 0, none⟩), .agg #[.int .i64 r.f, .int .i64 r.t], .bool v] W fun e w' => e = .returned (.tuple #[]) ∧ Goes (fun k => k = b ∨ k = g) w w' (RB w' b (set s r v))) :=
  fun W hW => (rset_any b s g r v W (h.below hW.below) hr hn).mono fun _ _ ⟨he, hk⟩ => ⟨he, hk.from hW.below⟩
theorem rsames (h : RBv w b s g) (r : Rg) : Hid (∀ W, Bx w r W → Goes (fun k => k = b ∨ k = g) w W (RB W b s)) :=
  fun _ hW => Goes.same (h.below hW.below).rb (Keeps.of_below hW.below)
theorem rcls (r : Rg) : Hid (∀ W, Bx w r W → W.cell? ⟨w.heap.size, 0, none⟩ = some (.int .i64 r.f) ∧ W.cell? ⟨w.heap.size, 1, none⟩ = some (.int .i64 r.t)) :=
  fun _ hW => hW.cells
end

set_option maxRecDepth 100000 in
set_option maxHeartbeats 2000000 in
theorem rtake_any (b : Nat) (s : St) (F : Nat → Prop) (r : Rg) (w : World) (hR : RB w b s F) (hn : s.n ≤ 4096) :
    Calls Try.prog 16 #[.pointer (some ⟨b, 0, none⟩), .agg #[.int .i64 r.f, .int .i64 r.t]] w fun e w' => e = .returned (.int .i64 (takeE s r)) ∧ Goes F w w' (RB w' b (takeS s r)) := by
  obtain ⟨g, h, rfl⟩ := hR.v
  have HB := Lib.hid (Bx.start w r)
  have HK := rmays h r
  have HP := rsames h r
  have HC := rcls (w := w) r
  by_cases hr : mayE s r = 0
  · by_cases ha : All s r true
    · have he : takeE s r = 0 := takeE_zero.2 ⟨hr, ha⟩
      have hs : takeS s r = set s r false := by unfold takeS; rw [if_pos he]
      rw [he, hs]
      have HA := ralls h r true hr hn (allB_true.2 ha)
      have HS := rsets h r false hr hn
      rw [hr] at HK
      clear h hR he hs ha hr HP
      obtain ⟨rf, rt⟩ := r
      go_enter Try.func16, Try.ntmps16
      go_wp2_with (first
        | (go_at_call 32; (with_reducible refine (HK.out _ HB.out).mono ?_); rintro e w1 ⟨rfl, hb⟩; have HB1 := Lib.hid hb; (obtain ⟨z1, z2⟩ := HC.out _ hb); clear hb)
        | (go_at_call 33; (with_reducible refine (HA.out _ HB1.out).mono ?_); rintro e w2 ⟨rfl, hb⟩; have HB2 := Lib.hid hb; (obtain ⟨y1, y2⟩ := HC.out _ hb); clear hb)
        | (go_at_call 28; (with_reducible refine (HS.out _ HB2.out).mono ?_); rintro e w3 ⟨rfl, hk⟩; have HZ := Lib.hid hk; clear hk)
        | fail)
      go_ret
      exact ⟨rfl, HZ.out⟩
    · have hq : takeE s r = 4 := by unfold takeE; rw [if_neg (by omega), allB_false.2 ha]; rfl
      have hs : takeS s r = s := by unfold takeS; rw [hq, if_neg (by omega)]
      rw [hq, hs]
      have HA := ralls h r true hr hn (allB_false.2 ha)
      rw [hr] at HK
      clear h hR hq hs ha hr
      obtain ⟨rf, rt⟩ := r
      go_enter Try.func16, Try.ntmps16
      go_wp2_with (first
        | (go_at_call 32; (with_reducible refine (HK.out _ HB.out).mono ?_); rintro e w1 ⟨rfl, hb⟩; have HB1 := Lib.hid hb; (obtain ⟨z1, z2⟩ := HC.out _ hb); clear hb)
        | (go_at_call 33; (with_reducible refine (HA.out _ HB1.out).mono ?_); rintro e w2 ⟨rfl, hb⟩; have HB2 := Lib.hid hb; (obtain ⟨y1, y2⟩ := HC.out _ hb); clear hb)
        | fail)
      go_ret
      exact ⟨rfl, HP.out _ HB2.out⟩
  · have he : takeE s r = mayE s r := by unfold takeE; rw [if_pos hr]
    have hs : takeS s r = s := by unfold takeS; rw [he, if_neg hr]
    rw [he, hs]
    clear h hR he hs
    generalize mayE s r = ev at *
    obtain ⟨rf, rt⟩ := r
    have hd : (ev == 0) = false := by simpa using hr
    go_enter Try.func16, Try.ntmps16
    go_wp2_with (go_at_call 32; (with_reducible refine (HK.out _ HB.out).mono ?_); rintro e w1 ⟨rfl, hb⟩; have HB1 := Lib.hid hb; (obtain ⟨z1, z2⟩ := HC.out _ hb); clear hb)
    go_ret
    exact ⟨rfl, HP.out _ HB1.out⟩

set_option maxRecDepth 100000 in
set_option maxHeartbeats 2000000 in
theorem rgive_any (b : Nat) (s : St) (F : Nat → Prop) (r : Rg) (w : World) (hR : RB w b s F) (hn : s.n ≤ 4096) :
    Calls Try.prog 18 #[.pointer (some ⟨b, 0, none⟩), .agg #[.int .i64 r.f, .int .i64 r.t]] w fun e w' => e = .returned (.int .i64 (giveE s r)) ∧ Goes F w w' (RB w' b (giveS s r)) := by
  obtain ⟨g, h, rfl⟩ := hR.v
  have HB := Lib.hid (Bx.start w r)
  have HK := rmays h r
  have HP := rsames h r
  have HC := rcls (w := w) r
  by_cases hr : mayE s r = 0
  · by_cases ha : All s r false
    · have he : giveE s r = 0 := giveE_zero.2 ⟨hr, ha⟩
      have hs : giveS s r = set s r true := by unfold giveS; rw [if_pos he]
      rw [he, hs]
      have HA := ralls h r false hr hn (allB_true.2 ha)
      have HS := rsets h r true hr hn
      rw [hr] at HK
      clear h hR he hs ha hr HP
      obtain ⟨rf, rt⟩ := r
      go_enter Try.func18, Try.ntmps18
      go_wp2_with (first
        | (go_at_call 32; (with_reducible refine (HK.out _ HB.out).mono ?_); rintro e w1 ⟨rfl, hb⟩; have HB1 := Lib.hid hb; (obtain ⟨z1, z2⟩ := HC.out _ hb); clear hb)
        | (go_at_call 33; (with_reducible refine (HA.out _ HB1.out).mono ?_); rintro e w2 ⟨rfl, hb⟩; have HB2 := Lib.hid hb; (obtain ⟨y1, y2⟩ := HC.out _ hb); clear hb)
        | (go_at_call 28; (with_reducible refine (HS.out _ HB2.out).mono ?_); rintro e w3 ⟨rfl, hk⟩; have HZ := Lib.hid hk; clear hk)
        | fail)
      go_ret
      exact ⟨rfl, HZ.out⟩
    · have hq : giveE s r = 3 := by unfold giveE; rw [if_neg (by omega), allB_false.2 ha]; rfl
      have hs : giveS s r = s := by unfold giveS; rw [hq, if_neg (by omega)]
      rw [hq, hs]
      have HA := ralls h r false hr hn (allB_false.2 ha)
      rw [hr] at HK
      clear h hR hq hs ha hr
      obtain ⟨rf, rt⟩ := r
      go_enter Try.func18, Try.ntmps18
      go_wp2_with (first
        | (go_at_call 32; (with_reducible refine (HK.out _ HB.out).mono ?_); rintro e w1 ⟨rfl, hb⟩; have HB1 := Lib.hid hb; (obtain ⟨z1, z2⟩ := HC.out _ hb); clear hb)
        | (go_at_call 33; (with_reducible refine (HA.out _ HB1.out).mono ?_); rintro e w2 ⟨rfl, hb⟩; have HB2 := Lib.hid hb; (obtain ⟨y1, y2⟩ := HC.out _ hb); clear hb)
        | fail)
      go_ret
      exact ⟨rfl, HP.out _ HB2.out⟩
  · have he : giveE s r = mayE s r := by unfold giveE; rw [if_pos hr]
    have hs : giveS s r = s := by unfold giveS; rw [he, if_neg hr]
    rw [he, hs]
    clear h hR he hs
    generalize mayE s r = ev at *
    obtain ⟨rf, rt⟩ := r
    have hd : (ev == 0) = false := by simpa using hr
    go_enter Try.func18, Try.ntmps18
    go_wp2_with (go_at_call 32; (with_reducible refine (HK.out _ HB.out).mono ?_); rintro e w1 ⟨rfl, hb⟩; have HB1 := Lib.hid hb; (obtain ⟨z1, z2⟩ := HC.out _ hb); clear hb)
    go_ret
    exact ⟨rfl, HP.out _ HB1.out⟩
end Go.Proofs.Ytlffgfkcgldekaa
