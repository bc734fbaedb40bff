/-
  A plate, and the document's own beside it, from one call to the next; the laws' bound.
-/
import Derived.Test.YtodllmgcoclnmaaRead
import Derived.Test.YtodllmgcoclnmaaWrite
import Derived.Test.YtodllmgcoclnmaaSync
import Derived.Test.YtodllmgcoclnmaaNew
import Derived.Test.YtodllmgcoclnmaaRread
import Derived.Test.YtodllmgcoclnmaaRwrite
import Derived.Test.YtodllmgcoclnmaaRnew
namespace Go.Proofs.Ytodllmgcoclnmaa
open Go.RowKit

/-- A plate s in block b, made since w0; all that lay in w0 lies as it did. -/
def PIn (w0 w : World) (b : Nat) (s : St) : Prop := ∃ F, PB w b s F ∧ (∀ k, F k → w0.heap.size ≤ k) ∧ Below w0.heap.size w0 w
/-- And the document's own s2 in block r. -/
def PR (w0 w : World) (b : Nat) (s : St) (r : Nat) (s2 : St) : Prop := ∃ F G, PB w b s F ∧ RB w r s2 G ∧ (∀ k, F k → ¬ G k) ∧ (∀ k, F k → w0.heap.size ≤ k) ∧ (∀ k, G k → w0.heap.size ≤ k) ∧ Below w0.heap.size w0 w

theorem base_of {F F' : Nat → Prop} {B : Nat} {w : World} (h : ∀ k, F k → B ≤ k) (hw : B ≤ w.heap.size) (hF : ∀ k, F' k → F k ∨ w.heap.size ≤ k) : ∀ k, F' k → B ≤ k := fun k hk => by
  rcases hF k hk with h1 | h1
  · exact h k h1
  · omega
theorem PIn.go {w0 w : World} {b : Nat} {s : St} (h : PIn w0 w b s) : ∃ F, PB w b s F ∧ ∀ w' s', Goes F w w' (PB w' b s') → PIn w0 w' b s' := by
  obtain ⟨F, h1, h2, h3⟩ := h
  exact ⟨F, h1, fun w' s' ⟨F', k1, k2, k3⟩ => ⟨F', k1, base_of h2 h3.size k2, k3.below h3 h3.size h2⟩⟩
theorem PIn.below {w0 w w' : World} {b : Nat} {s : St} (h : PIn w0 w b s) (hb : Below w.heap.size w w') : PIn w0 w' b s := by
  obtain ⟨F, h1, h2, h3⟩ := h
  exact ⟨F, h1.below hb, h2, h3.trans (hb.mono h3.size)⟩
theorem PIn.start {w0 w w' : World} {b : Nat} {s : St} (hw : Below w0.heap.size w0 w) (h : Goes (fun _ => False) w w' (PB w' b s)) : PIn w0 w' b s := by
  obtain ⟨F, h1, h2, h3⟩ := h
  exact ⟨F, h1, fun k hk => by rcases h2 k hk with h | h; (exact h.elim); (exact Nat.le_trans hw.size h), h3.below hw hw.size (fun _ h => h.elim)⟩
theorem PIn.bel {w0 w : World} {b : Nat} {s : St} (h : PIn w0 w b s) : Below w0.heap.size w0 w := h.choose_spec.2.2
theorem PR.goP {w0 w : World} {b r : Nat} {s s2 : St} (h : PR w0 w b s r s2) : ∃ F, PB w b s F ∧ ∀ w' s', Goes F w w' (PB w' b s') → PR w0 w' b s' r s2 := by
  obtain ⟨F, G, h1, h2, h3, h4, h5, h6⟩ := h
  refine ⟨F, h1, fun w' s' ⟨F', k1, k2, k3⟩ => ⟨F', G, k1, h2.keeps k3 (fun k hg hf => h3 k hf hg), fun k hf hg => ?_, base_of h4 h6.size k2, h5, k3.below h6 h6.size h4⟩⟩
  rcases k2 k hf with h | h
  · exact h3 k h hg
  · have := h2.lt k hg; omega
theorem PR.goR {w0 w : World} {b r : Nat} {s s2 : St} (h : PR w0 w b s r s2) : ∃ G, RB w r s2 G ∧ ∀ w' s', Goes G w w' (RB w' r s') → PR w0 w' b s r s' := by
  obtain ⟨F, G, h1, h2, h3, h4, h5, h6⟩ := h
  refine ⟨G, h2, fun w' s' ⟨G', k1, k2, k3⟩ => ⟨F, G', h1.keeps k3 (fun k hf hg => h3 k hf hg), k1, fun k hf hg => ?_, h4, base_of h5 h6.size k2, k3.below h6 h6.size h5⟩⟩
  rcases k2 k hg with h | h
  · exact h3 k hf h
  · have := h1.lt k hf; omega
theorem PR.below {w0 w w' : World} {b r : Nat} {s s2 : St} (h : PR w0 w b s r s2) (hb : Below w.heap.size w w') : PR w0 w' b s r s2 := by
  obtain ⟨F, G, h1, h2, h3, h4, h5, h6⟩ := h
  exact ⟨F, G, h1.below hb, h2.below hb, h3, h4, h5, h6.trans (hb.mono h6.size)⟩
theorem PR.bel {w0 w : World} {b r : Nat} {s s2 : St} (h : PR w0 w b s r s2) : Below w0.heap.size w0 w := by
  obtain ⟨F, G, h1, h2, h3, h4, h5, h6⟩ := h; exact h6
theorem PR.start {w0 w w' : World} {b r : Nat} {s s2 : St} (h : PIn w0 w b s) (k : Goes (fun _ => False) w w' (RB w' r s2)) : PR w0 w' b s r s2 := by
  obtain ⟨F, h1, h2, h3⟩ := h
  obtain ⟨G, k1, k2, k3⟩ := k
  have hlt := h1.lt
  refine ⟨F, G, h1.keeps k3 (fun _ _ h => h), k1, fun k hf hg => ?_, h2, fun k hk => ?_, k3.below h3 h3.size (fun _ h => h.elim)⟩
  · rcases k2 k hg with h | h
    · exact h
    · have := hlt k hf; omega
  · rcases k2 k hk with h | h
    · exact h.elim
    · have := h3.size; omega
/-- A row of one's own beside them stays as it is. -/
theorem PR.dead {w0 w : World} {b r : Nat} {s s2 : St} (h : PR w0 w b s r s2) : ∃ F, PB w b s F := ⟨_, h.choose_spec.choose_spec.1⟩

section
variable {w0 w : World} {b r : Nat} {s s2 : St}
theorem pin_write (h : PIn w0 w b s) (hg : Good s) (hn : s.wait.length ≤ 900) (hc : s.n ≤ 1000000) (i : Int) (t : ByteArray) (ht : t.size ≤ 9223372036854775807) :
    Calls Try.prog 12 #[.pointer (some ⟨b, 0, none⟩), .int .i64 i, .string t] w fun e w' => e = .returned (.int .i64 (writeE s i t)) ∧ PIn w0 w' b (writeS s i t) := by
  obtain ⟨F, h1, h2⟩ := h.go
  exact (write_any b s F i t w h1 hg hn hc ht).mono fun e w' ⟨he, hk⟩ => ⟨he, h2 _ _ hk⟩
theorem pin_sync (h : PIn w0 w b s) (hg : Good s) (hn : s.wait.length ≤ 1000) (hc : s.n ≤ 1000000) :
    Calls Try.prog 14 #[.pointer (some ⟨b, 0, none⟩)] w fun e w' => e = .returned (.int .i64 (syncE s)) ∧ PIn w0 w' b (syncS s) := by
  obtain ⟨F, h1, h2⟩ := h.go
  exact (sync_any b s F w h1 hg hn hc).mono fun e w' ⟨he, hk⟩ => ⟨he, h2 _ _ hk⟩
theorem pin_cut (h : PIn w0 w b s) (k : Int) (keep : Nat) (hk : k < 9223372036854775808) (hkp : keep < 18446744073709551616) :
    Calls Try.prog 16 #[.pointer (some ⟨b, 0, none⟩), .int .i64 k, .int .u64 keep] w fun e w' => e = .returned (.tuple #[]) ∧ PIn w0 w' b (cut s k keep) := by
  obtain ⟨F, h1, h2⟩ := h.go
  exact (cut_any b s F k keep w h1 hk hkp).mono fun e w' ⟨he, hk⟩ => ⟨he, h2 _ _ hk⟩
theorem pin_crash (h : PIn w0 w b s) (hg : Good s) (hn : s.wait.length ≤ 1000) (keep : Nat) (hkp : keep < 18446744073709551616) :
    Calls Try.prog 18 #[.pointer (some ⟨b, 0, none⟩), .int .u64 keep] w fun e w' => e = .returned (.tuple #[]) ∧ PIn w0 w' b (crash s keep) := by
  obtain ⟨F, h1, h2⟩ := h.go
  exact (crash_any b s F keep w h1 hg hn hkp).mono fun e w' ⟨he, hk⟩ => ⟨he, h2 _ _ hk⟩
theorem pin_power (h : PIn w0 w b s) :
    Calls Try.prog 20 #[.pointer (some ⟨b, 0, none⟩)] w fun e w' => e = .returned (.tuple #[]) ∧ PIn w0 w' b (power s) := by
  obtain ⟨F, h1, h2⟩ := h.go
  exact (power_any b s F w h1).mono fun e w' ⟨he, hk⟩ => ⟨he, h2 _ _ hk⟩
theorem pin_read (h : PIn w0 w b s) (hg : Good s) (i : Int) :
    Calls Try.prog 22 #[.pointer (some ⟨b, 0, none⟩), .int .i64 i] w fun e w' => e = .returned (.tuple #[.string (str (readV s i)), .int .i64 (wrong s i)]) ∧ Below w.heap.size w w' := by
  obtain ⟨F, h1, h2⟩ := h.go
  exact read_any b s F i w h1 hg
theorem pin_dead (h : PIn w0 w b s) : Calls Try.prog 24 #[.pointer (some ⟨b, 0, none⟩)] w fun e w' => e = .returned (.bool s.gone) ∧ w = w' := by
  obtain ⟨F, h1, h2⟩ := h.go
  exact dead_any b s F w h1
theorem pin_calls (h : PIn w0 w b s) : Calls Try.prog 25 #[.pointer (some ⟨b, 0, none⟩)] w fun e w' => e = .returned (.int .i64 (s.n : Int)) ∧ w = w' := by
  obtain ⟨F, h1, h2⟩ := h.go
  exact calls_any b s F w h1

theorem PR.pin (h : PR w0 w b s r s2) : PIn w0 w b s := by
  obtain ⟨F, G, h1, h2, h3, h4, h5, h6⟩ := h; exact ⟨F, h1, h4, h6⟩
theorem pr_write (h : PR w0 w b s r s2) (hg : Good s) (hn : s.wait.length ≤ 900) (hc : s.n ≤ 1000000) (i : Int) (t : ByteArray) (ht : t.size ≤ 9223372036854775807) :
    Calls Try.prog 12 #[.pointer (some ⟨b, 0, none⟩), .int .i64 i, .string t] w fun e w' => e = .returned (.int .i64 (writeE s i t)) ∧ PR w0 w' b (writeS s i t) r s2 := by
  obtain ⟨F, h1, h2⟩ := h.goP
  exact (write_any b s F i t w h1 hg hn hc ht).mono fun e w' ⟨he, hk⟩ => ⟨he, h2 _ _ hk⟩
theorem pr_sync (h : PR w0 w b s r s2) (hg : Good s) (hn : s.wait.length ≤ 1000) (hc : s.n ≤ 1000000) :
    Calls Try.prog 14 #[.pointer (some ⟨b, 0, none⟩)] w fun e w' => e = .returned (.int .i64 (syncE s)) ∧ PR w0 w' b (syncS s) r s2 := by
  obtain ⟨F, h1, h2⟩ := h.goP
  exact (sync_any b s F w h1 hg hn hc).mono fun e w' ⟨he, hk⟩ => ⟨he, h2 _ _ hk⟩
theorem pr_cut (h : PR w0 w b s r s2) (k : Int) (keep : Nat) (hk : k < 9223372036854775808) (hkp : keep < 18446744073709551616) :
    Calls Try.prog 16 #[.pointer (some ⟨b, 0, none⟩), .int .i64 k, .int .u64 keep] w fun e w' => e = .returned (.tuple #[]) ∧ PR w0 w' b (cut s k keep) r s2 := by
  obtain ⟨F, h1, h2⟩ := h.goP
  exact (cut_any b s F k keep w h1 hk hkp).mono fun e w' ⟨he, hk⟩ => ⟨he, h2 _ _ hk⟩
theorem pr_crash (h : PR w0 w b s r s2) (hg : Good s) (hn : s.wait.length ≤ 1000) (keep : Nat) (hkp : keep < 18446744073709551616) :
    Calls Try.prog 18 #[.pointer (some ⟨b, 0, none⟩), .int .u64 keep] w fun e w' => e = .returned (.tuple #[]) ∧ PR w0 w' b (crash s keep) r s2 := by
  obtain ⟨F, h1, h2⟩ := h.goP
  exact (crash_any b s F keep w h1 hg hn hkp).mono fun e w' ⟨he, hk⟩ => ⟨he, h2 _ _ hk⟩
theorem pr_power (h : PR w0 w b s r s2) :
    Calls Try.prog 20 #[.pointer (some ⟨b, 0, none⟩)] w fun e w' => e = .returned (.tuple #[]) ∧ PR w0 w' b (power s) r s2 := by
  obtain ⟨F, h1, h2⟩ := h.goP
  exact (power_any b s F w h1).mono fun e w' ⟨he, hk⟩ => ⟨he, h2 _ _ hk⟩
theorem prr_write (h : PR w0 w b s r s2) (hg : Good s2) (hn : s2.wait.length ≤ 900) (hc : s2.n ≤ 1000000) (i : Int) (t : ByteArray) (ht : t.size ≤ 9223372036854775807) :
    Calls Try.prog 13 #[.pointer (some ⟨r, 0, none⟩), .int .i64 i, .string t] w fun e w' => e = .returned (.int .i64 (writeE s2 i t)) ∧ PR w0 w' b s r (writeS s2 i t) := by
  obtain ⟨F, h1, h2⟩ := h.goR
  exact (rwrite_any r s2 F i t w h1 hg hn hc ht).mono fun e w' ⟨he, hk⟩ => ⟨he, h2 _ _ hk⟩
theorem prr_sync (h : PR w0 w b s r s2) (hg : Good s2) (hc : s2.n ≤ 1000000) :
    Calls Try.prog 15 #[.pointer (some ⟨r, 0, none⟩)] w fun e w' => e = .returned (.int .i64 (syncE s2)) ∧ PR w0 w' b s r (syncS s2) := by
  obtain ⟨F, h1, h2⟩ := h.goR
  exact (rsync_any r s2 F w h1 hg hc).mono fun e w' ⟨he, hk⟩ => ⟨he, h2 _ _ hk⟩
theorem prr_cut (h : PR w0 w b s r s2) (k : Int) (keep : Nat) :
    Calls Try.prog 17 #[.pointer (some ⟨r, 0, none⟩), .int .i64 k, .int .u64 keep] w fun e w' => e = .returned (.tuple #[]) ∧ PR w0 w' b s r (cut s2 k keep) := by
  obtain ⟨F, h1, h2⟩ := h.goR
  exact (rcut_any r s2 F k keep w h1).mono fun e w' ⟨he, hk⟩ => ⟨he, h2 _ _ hk⟩
theorem prr_crash (h : PR w0 w b s r s2) (hg : Good s2) (keep : Nat) :
    Calls Try.prog 19 #[.pointer (some ⟨r, 0, none⟩), .int .u64 keep] w fun e w' => e = .returned (.tuple #[]) ∧ PR w0 w' b s r (crash s2 keep) := by
  obtain ⟨F, h1, h2⟩ := h.goR
  exact (rcrash_any r s2 F keep w h1 hg).mono fun e w' ⟨he, hk⟩ => ⟨he, h2 _ _ hk⟩
theorem prr_power (h : PR w0 w b s r s2) :
    Calls Try.prog 21 #[.pointer (some ⟨r, 0, none⟩)] w fun e w' => e = .returned (.tuple #[]) ∧ PR w0 w' b s r (power s2) := by
  obtain ⟨F, h1, h2⟩ := h.goR
  exact (rpower_any r s2 F w h1).mono fun e w' ⟨he, hk⟩ => ⟨he, h2 _ _ hk⟩
theorem prr_read (h : PR w0 w b s r s2) (i : Int) :
    Calls Try.prog 23 #[.pointer (some ⟨r, 0, none⟩), .int .i64 i] w fun e w' => e = .returned (.tuple #[.string (str (readV s2 i)), .int .i64 (wrong s2 i)]) ∧ w = w' := by
  obtain ⟨F, h1, h2⟩ := h.goR
  exact rread_any r s2 F i w h1
/-- The document's own cells. -/
theorem PR.cells (h : PR w0 w b s r s2) : (∃ A c, w.cell? ⟨r, 0, none⟩ = some (.slice A s2.is.length c) ∧ ∀ i x, s2.is[i]? = some x → ∃ g, A = some ⟨g, 0, none⟩ ∧ w.cell? ⟨g, i, none⟩ = some (.string (str x))) ∧ w.cell? ⟨r, 2, none⟩ = some (.bool s2.gone) ∧ w.cell? ⟨r, 5, none⟩ = some (.int .i64 (s2.n : Int)) := by
  obtain ⟨F, h1, h2⟩ := h.goR
  obtain ⟨vi, vw, h1, -⟩ := h1.v
  obtain ⟨c0, -, c2, -, -, c5⟩ := h1.cells
  obtain ⟨⟨A, c, rfl, -, -, hc⟩, -⟩ := h1.shapes
  exact ⟨⟨A, c, c0, fun i x hx => by obtain ⟨g, hA, -, hg⟩ := hc i x hx; exact ⟨g, hA, hg⟩⟩, c2, c5⟩
end

/-! ### steps -/
structure Stp where
  k : Int
  i : Int
  s : ByteArray
  keep : Nat
@[reducible] def Stp.cells (o : Stp) : Array Value := #[.int .i64 o.k, .int .i64 o.i, .string o.s, .int .u64 (o.keep : Int)]
structure SAt (w : World) (b p : Nat) (o : Stp) : Prop where
  c0 : w.cell? ⟨b, p, none⟩ = some (.int .i64 o.k)
  c1 : w.cell? ⟨b, p + 1, none⟩ = some (.int .i64 o.i)
  c2 : w.cell? ⟨b, p + 2, none⟩ = some (.string o.s)
  c3 : w.cell? ⟨b, p + 3, none⟩ = some (.int .u64 (o.keep : Int))
  wi : o.i < 9223372036854775808
  ws : o.s.size ≤ 9223372036854775807
  wk : o.keep < 18446744073709551616
theorem SAt.lt {w : World} {b p : Nat} {o : Stp} (h : SAt w b p o) : b < w.heap.size := World.block_lt_of_cell? w _ h.c0
theorem SAt.below {w w' : World} {b p N : Nat} {o : Stp} (h : SAt w b p o) (hb : Below N w w') (hN : b < N) : SAt w' b p o :=
  ⟨(hb.cell (p := ⟨b, p, none⟩) hN).trans h.c0, (hb.cell (p := ⟨b, p + 1, none⟩) hN).trans h.c1, (hb.cell (p := ⟨b, p + 2, none⟩) hN).trans h.c2, (hb.cell (p := ⟨b, p + 3, none⟩) hN).trans h.c3, h.wi, h.ws, h.wk⟩
/-- A list of n steps, at A. -/
def Steps (w : World) (A : Option Addr) (n : Nat) (st : Nat → Stp) : Prop := ∀ i, i < n → ∃ b off, A = some ⟨b, off, none⟩ ∧ SAt w b (off + i * 4) (st i)
theorem Steps.below {w w' : World} {A : Option Addr} {n : Nat} {st : Nat → Stp} (h : Steps w A n st) (hb : Below w.heap.size w w') : Steps w' A n st := fun i hi => by
  obtain ⟨b, off, hA, hs⟩ := h i hi
  exact ⟨b, off, hA, hs.below hb hs.lt⟩

/-- What heavy answers: where it says no, there are few. -/
def Few (n : Nat) (e : Ending) : Prop := ∃ v : Bool, e = .returned (.bool v) ∧ (v = false → n ≤ 200)
set_option maxRecDepth 100000 in
set_option maxHeartbeats 2000000 in
theorem heavy_any (A : Option Addr) (n c : Nat) (st : Nat → Stp) (w : World) (hS : Steps w A n st) (hn : n ≤ 9223372036854775807) :
    Calls Try.prog 8 #[.slice A n c] w fun e w' => Few n e ∧ w = w' := by
  have HS := Lib.hid hS
  clear hS
  go_enter Try.func8, Try.ntmps8
  go_wp2
  all_goals
    go_loop [3, 4] (fun mv iv => ∃ i m : Nat, i ≤ n ∧ m ≤ 2000000 ∧ iv = .int .i64 i ∧ mv = .int .i64 m) (fun _ iv => n - (intOf iv).toNat)
    case atStart => first | exact ⟨0, n, Nat.zero_le _, by omega, rfl, rfl⟩ | exact ⟨0, 1048576, Nat.zero_le _, by omega, rfl, rfl⟩
    case round =>
      obtain ⟨i, m, hi, hm, rfl, rfl⟩ := hrel
      by_cases hlt : i < n
      · have hlI : (i : Int) < (n : Int) := by omega
        have hi0 : (0 : Int) ≤ (i : Int) := by omega
        by_cases hm8 : m ≤ 8192
        · have hmI : (m : Int) ≤ 8192 := by omega
          obtain ⟨b, off, rfl, hat⟩ := HS.out i hlt
          have c2 := hat.c2
          have hsz := hat.ws
          clear hat
          by_cases hbig : 1048576 < (st i).s.size
          · have hbI : (1048576 : Int) < ((st i).s.size : Int) := by omega
            go_wp2
            all_goals
              go_round
              case rel => exact ⟨i + 1, m + 1048576, by omega, by omega, by go_num, by congr 1⟩
              case measure => simp [intOf]; omega
          · have hbI : ¬ (1048576 : Int) < ((st i).s.size : Int) := by omega
            go_wp2
            all_goals
              go_round
              case rel => exact ⟨i + 1, m + (st i).s.size, by omega, by omega, by go_num, by congr 1⟩
              case measure => simp [intOf]; omega
        · have hmI : ¬ ((m : Int) ≤ 8192) := by omega
          go_wp2
          go_ret
          exact ⟨⟨true, rfl, fun e => by cases e⟩, rfl⟩
      · have hlI : ¬ ((i : Int) < (n : Int)) := by omega
        by_cases hm8 : m ≤ 8192
        · have hmI : ¬ (8192 < (m : Int)) := by omega
          by_cases h200 : n ≤ 200
          · have hnI : ¬ (200 < (n : Int)) := by omega
            go_wp2
            go_ret
            exact ⟨⟨false, rfl, fun _ => h200⟩, rfl⟩
          · have hnI : 200 < (n : Int) := by omega
            go_wp2
            go_ret
            exact ⟨⟨true, rfl, fun e => by cases e⟩, rfl⟩
        · have hmI : 8192 < (m : Int) := by omega
          go_wp2
          go_ret
          exact ⟨⟨true, rfl, fun e => by cases e⟩, rfl⟩
end Go.Proofs.Ytodllmgcoclnmaa
