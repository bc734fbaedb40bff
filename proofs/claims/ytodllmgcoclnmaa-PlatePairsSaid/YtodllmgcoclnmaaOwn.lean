/-
  A plate, and the document's own, beside blocks that no call of them touches.
-/
import Derived.Test.YtodllmgcoclnmaaBoth
namespace Go.Proofs.Ytodllmgcoclnmaa
open Go.RowKit

/-- The blocks O are as they were. -/
def Kept (O : Nat → Prop) (w w' : World) : Prop := ∀ k, O k → w'.heap[k]? = w.heap[k]?
theorem Kept.cell {O : Nat → Prop} {w w' : World} (h : Kept O w w') {k i : Nat} (hk : O k) : w'.cell? ⟨k, i, none⟩ = w.cell? ⟨k, i, none⟩ := World.cell?_of_block (h k hk)
theorem Kept.owns {O : Nat → Prop} {w w' : World} (h : Kept O w w') {base e size n : Nat} {v : Value} {xs : List Value} (ho : w.ownsRow base e size v n xs) (hO : ∀ g, v.ownBlock = some g → O g) : w'.ownsRow base e size v n xs := owns_kept ho fun g hg => h g (hO g hg)
theorem Kept.row {O : Nat → Prop} {w w' : World} (h : Kept O w w') {b t n : Nat} {f : Nat → Value} (hr : w.rowIs b t n f) (hk : O b) : w'.rowIs b t n f := hr.of_block (h b hk)
theorem Kept.of_below {O : Nat → Prop} {w w' : World} {B : Nat} (h : Below B w w') (hO : ∀ k, O k → k < B) : Kept O w w' := fun k hk => h.block k (hO k hk)

/-- A plate s in block b, beside the blocks O. -/
def PIO (w0 w : World) (b : Nat) (s : St) (O : Nat → Prop) : Prop := ∃ F, PB w b s F ∧ (∀ k, F k → w0.heap.size ≤ k) ∧ Below w0.heap.size w0 w ∧ ∀ k, O k → ¬ F k ∧ k < w.heap.size ∧ w0.heap.size ≤ k
/-- And the document's own. -/
def PRO (w0 w : World) (b : Nat) (s : St) (r : Nat) (s2 : St) (O : Nat → Prop) : Prop := ∃ F G, PB w b s F ∧ RB w r s2 G ∧ (∀ k, F k → ¬ G k) ∧ (∀ k, F k → w0.heap.size ≤ k) ∧ (∀ k, G k → w0.heap.size ≤ k) ∧ Below w0.heap.size w0 w ∧ ∀ k, O k → ¬ F k ∧ ¬ G k ∧ k < w.heap.size ∧ w0.heap.size ≤ k
theorem PIO.pin {w0 w : World} {b : Nat} {s : St} {O : Nat → Prop} (h : PIO w0 w b s O) : PIn w0 w b s := by
  obtain ⟨F, h1, h2, h3, h4⟩ := h; exact ⟨F, h1, h2, h3⟩
theorem PRO.pr {w0 w : World} {b r : Nat} {s s2 : St} {O : Nat → Prop} (h : PRO w0 w b s r s2 O) : PR w0 w b s r s2 := by
  obtain ⟨F, G, h1, h2, h3, h4, h5, h6, h7⟩ := h; exact ⟨F, G, h1, h2, h3, h4, h5, h6⟩
theorem PIO.own {w0 w : World} {b : Nat} {s : St} {O : Nat → Prop} (h : PIO w0 w b s O) {k : Nat} (hk : O k) : k < w.heap.size ∧ w0.heap.size ≤ k := by
  obtain ⟨F, h1, h2, h3, h4⟩ := h; exact (h4 k hk).2
theorem PRO.own {w0 w : World} {b r : Nat} {s s2 : St} {O : Nat → Prop} (h : PRO w0 w b s r s2 O) {k : Nat} (hk : O k) : k < w.heap.size ∧ w0.heap.size ≤ k := by
  obtain ⟨F, G, h1, h2, h3, h4, h5, h6, h7⟩ := h; exact (h7 k hk).2.2
/-- New blocks. -/
theorem PIn.also {w0 w w' : World} {b : Nat} {s : St} (h : PIn w0 w b s) (hb : Below w.heap.size w w') {O : Nat → Prop} (hO : ∀ k, O k → w.heap.size ≤ k ∧ k < w'.heap.size) : PIO w0 w' b s O := by
  obtain ⟨F, h1, h2, h3⟩ := h
  have hl := h1.lt
  exact ⟨F, h1.below hb, h2, h3.trans (hb.mono h3.size), fun k hk => ⟨fun hf => by have := hl k hf; have := (hO k hk).1; omega, (hO k hk).2, Nat.le_trans h3.size (hO k hk).1⟩⟩
theorem PR.also {w0 w w' : World} {b r : Nat} {s s2 : St} (h : PR w0 w b s r s2) (hb : Below w.heap.size w w') {O : Nat → Prop} (hO : ∀ k, O k → w.heap.size ≤ k ∧ k < w'.heap.size) : PRO w0 w' b s r s2 O := by
  obtain ⟨F, G, h1, h2, h3, h4, h5, h6⟩ := h
  have hl := h1.lt
  have hl2 := h2.lt
  exact ⟨F, G, h1.below hb, h2.below hb, h3, h4, h5, h6.trans (hb.mono h6.size), fun k hk => ⟨fun hf => by have := hl k hf; have := (hO k hk).1; omega, fun hf => by have := hl2 k hf; have := (hO k hk).1; omega, (hO k hk).2, Nat.le_trans h6.size (hO k hk).1⟩⟩
/-- The blocks O turn, and new ones. -/
theorem PIO.turn {w0 w w' : World} {b : Nat} {s : St} {O O' : Nat → Prop} (h : PIO w0 w b s O) (hk : Keeps O w w') (hO : ∀ k, O' k → O k ∨ w.heap.size ≤ k) (hlt : ∀ k, O' k → k < w'.heap.size) : PIO w0 w' b s O' := by
  obtain ⟨F, h1, h2, h3, h4⟩ := h
  have hl := h1.lt
  refine ⟨F, h1.keeps hk (fun k hf ho => (h4 k ho).1 hf), h2, hk.below h3 h3.size (fun k ho => (h4 k ho).2.2), fun k ho => ⟨fun hf => ?_, hlt k ho, ?_⟩⟩
  · rcases hO k ho with h | h
    · exact (h4 k h).1 hf
    · have := hl k hf; omega
  · rcases hO k ho with h | h
    · exact (h4 k h).2.2
    · exact Nat.le_trans h3.size h
theorem PRO.turn {w0 w w' : World} {b r : Nat} {s s2 : St} {O O' : Nat → Prop} (h : PRO w0 w b s r s2 O) (hk : Keeps O w w') (hO : ∀ k, O' k → O k ∨ w.heap.size ≤ k) (hlt : ∀ k, O' k → k < w'.heap.size) : PRO w0 w' b s r s2 O' := by
  obtain ⟨F, G, h1, h2, h3, h4, h5, h6, h7⟩ := h
  have hl := h1.lt
  have hl2 := h2.lt
  refine ⟨F, G, h1.keeps hk (fun k hf ho => (h7 k ho).1 hf), h2.keeps hk (fun k hf ho => (h7 k ho).2.1 hf), h3, h4, h5, hk.below h6 h6.size (fun k ho => (h7 k ho).2.2.2), fun k ho => ⟨fun hf => ?_, fun hf => ?_, hlt k ho, ?_⟩⟩
  · rcases hO k ho with h | h
    · exact (h7 k h).1 hf
    · have := hl k hf; omega
  · rcases hO k ho with h | h
    · exact (h7 k h).2.1 hf
    · have := hl2 k hf; omega
  · rcases hO k ho with h | h
    · exact (h7 k h).2.2.2
    · exact Nat.le_trans h6.size h
theorem PIO.below {w0 w w' : World} {b : Nat} {s : St} {O : Nat → Prop} (h : PIO w0 w b s O) (hb : Below w.heap.size w w') : PIO w0 w' b s O :=
  h.turn (Keeps.of_below hb) (fun _ hk => .inl hk) (fun _ hk => Nat.lt_of_lt_of_le (h.own hk).1 hb.size)
theorem PRO.below {w0 w w' : World} {b r : Nat} {s s2 : St} {O : Nat → Prop} (h : PRO w0 w b s r s2 O) (hb : Below w.heap.size w w') : PRO w0 w' b s r s2 O :=
  h.turn (Keeps.of_below hb) (fun _ hk => .inl hk) (fun _ hk => Nat.lt_of_lt_of_le (h.own hk).1 hb.size)
theorem PIO.bel {w0 w : World} {b : Nat} {s : St} {O : Nat → Prop} (h : PIO w0 w b s O) : Below w0.heap.size w0 w := h.pin.bel
theorem PRO.bel {w0 w : World} {b r : Nat} {s s2 : St} {O : Nat → Prop} (h : PRO w0 w b s r s2 O) : Below w0.heap.size w0 w := h.pr.bel

theorem PIO.go {w0 w : World} {b : Nat} {s : St} {O : Nat → Prop} (h : PIO w0 w b s O) : ∃ F, PB w b s F ∧ ∀ w' s', Goes F w w' (PB w' b s') → PIO w0 w' b s' O ∧ Kept O w w' := by
  obtain ⟨F, h1, h2, h3, h4⟩ := h
  refine ⟨F, h1, fun w' s' ⟨F', k1, k2, k3⟩ => ⟨⟨F', k1, base_of h2 h3.size k2, k3.below h3 h3.size h2, fun k hk => ⟨fun hf => ?_, Nat.lt_of_lt_of_le (h4 k hk).2.1 k3.size, (h4 k hk).2.2⟩⟩, fun k hk => k3.block k (h4 k hk).2.1 (h4 k hk).1⟩⟩
  rcases k2 k hf with h | h
  · exact (h4 k hk).1 h
  · have := (h4 k hk).2.1; omega
theorem PRO.goP {w0 w : World} {b r : Nat} {s s2 : St} {O : Nat → Prop} (h : PRO w0 w b s r s2 O) : ∃ F, PB w b s F ∧ ∀ w' s', Goes F w w' (PB w' b s') → PRO w0 w' b s' r s2 O ∧ Kept O w w' := by
  obtain ⟨F, G, h1, h2, h3, h4, h5, h6, h7⟩ := h
  refine ⟨F, h1, fun w' s' ⟨F', k1, k2, k3⟩ => ⟨⟨F', G, k1, h2.keeps k3 (fun k hg hf => h3 k hf hg), fun k hf hg => ?_, base_of h4 h6.size k2, h5, k3.below h6 h6.size h4, fun k hk => ⟨fun hf => ?_, (h7 k hk).2.1, Nat.lt_of_lt_of_le (h7 k hk).2.2.1 k3.size, (h7 k hk).2.2.2⟩⟩, fun k hk => k3.block k (h7 k hk).2.2.1 (h7 k hk).1⟩⟩
  · rcases k2 k hf with h | h
    · exact h3 k h hg
    · have := h2.lt k hg; omega
  · rcases k2 k hf with h | h
    · exact (h7 k hk).1 h
    · have := (h7 k hk).2.2.1; omega
theorem PRO.goR {w0 w : World} {b r : Nat} {s s2 : St} {O : Nat → Prop} (h : PRO w0 w b s r s2 O) : ∃ G, RB w r s2 G ∧ ∀ w' s', Goes G w w' (RB w' r s') → PRO w0 w' b s r s' O ∧ Kept O w w' := by
  obtain ⟨F, G, h1, h2, h3, h4, h5, h6, h7⟩ := h
  refine ⟨G, h2, fun w' s' ⟨G', k1, k2, k3⟩ => ⟨⟨F, G', h1.keeps k3 (fun k hf hg => h3 k hf hg), k1, fun k hf hg => ?_, h4, base_of h5 h6.size k2, k3.below h6 h6.size h5, fun k hk => ⟨(h7 k hk).1, fun hf => ?_, Nat.lt_of_lt_of_le (h7 k hk).2.2.1 k3.size, (h7 k hk).2.2.2⟩⟩, fun k hk => k3.block k (h7 k hk).2.2.1 (h7 k hk).2.1⟩⟩
  · rcases k2 k hg with h | h
    · exact h3 k hf h
    · have := h1.lt k hf; omega
  · rcases k2 k hf with h | h
    · exact (h7 k hk).2.1 h
    · have := (h7 k hk).2.2.1; omega

section
variable {w0 w : World} {b r : Nat} {s s2 : St} {O : Nat → Prop}
theorem io_write (h : PIO w0 w b s O) (hg : Good s) (hn : s.wait.length ≤ 900) (hc : s.n ≤ 1000000) (i : Int) (t : ByteArray) (ht : t.size ≤ 9223372036854775807) :
    Calls Try.prog 12 #[.pointer (some ⟨b, 0, none⟩), .int .i64 i, .string t] w fun e w' => e = .returned (.int .i64 (writeE s i t)) ∧ PIO w0 w' b (writeS s i t) O ∧ Kept O w w' := by
  obtain ⟨F, h1, h2⟩ := h.go
  exact (write_any b s F i t w h1 hg hn hc ht).mono fun e w' ⟨he, hk⟩ => ⟨he, h2 _ _ hk⟩
theorem io_sync (h : PIO w0 w b s O) (hg : Good s) (hn : s.wait.length ≤ 1000) (hc : s.n ≤ 1000000) :
    Calls Try.prog 14 #[.pointer (some ⟨b, 0, none⟩)] w fun e w' => e = .returned (.int .i64 (syncE s)) ∧ PIO w0 w' b (syncS s) O ∧ Kept O w w' := by
  obtain ⟨F, h1, h2⟩ := h.go
  exact (sync_any b s F w h1 hg hn hc).mono fun e w' ⟨he, hk⟩ => ⟨he, h2 _ _ hk⟩
theorem io_cut (h : PIO w0 w b s O) (k : Int) (keep : Nat) (hk : k < 9223372036854775808) (hkp : keep < 18446744073709551616) :
    Calls Try.prog 16 #[.pointer (some ⟨b, 0, none⟩), .int .i64 k, .int .u64 keep] w fun e w' => e = .returned (.tuple #[]) ∧ PIO w0 w' b (cut s k keep) O ∧ Kept O w w' := by
  obtain ⟨F, h1, h2⟩ := h.go
  exact (cut_any b s F k keep w h1 hk hkp).mono fun e w' ⟨he, hk⟩ => ⟨he, h2 _ _ hk⟩
theorem io_crash (h : PIO w0 w b s O) (hg : Good s) (hn : s.wait.length ≤ 1000) (keep : Nat) (hkp : keep < 18446744073709551616) :
    Calls Try.prog 18 #[.pointer (some ⟨b, 0, none⟩), .int .u64 keep] w fun e w' => e = .returned (.tuple #[]) ∧ PIO w0 w' b (crash s keep) O ∧ Kept O w w' := by
  obtain ⟨F, h1, h2⟩ := h.go
  exact (crash_any b s F keep w h1 hg hn hkp).mono fun e w' ⟨he, hk⟩ => ⟨he, h2 _ _ hk⟩
theorem io_power (h : PIO w0 w b s O)  :
    Calls Try.prog 20 #[.pointer (some ⟨b, 0, none⟩)] w fun e w' => e = .returned (.tuple #[]) ∧ PIO w0 w' b (power s) O ∧ Kept O w w' := by
  obtain ⟨F, h1, h2⟩ := h.go
  exact (power_any b s F w h1).mono fun e w' ⟨he, hk⟩ => ⟨he, h2 _ _ hk⟩
theorem po_write (h : PRO w0 w b s r s2 O) (hg : Good s) (hn : s.wait.length ≤ 900) (hc : s.n ≤ 1000000) (i : Int) (t : ByteArray) (ht : t.size ≤ 9223372036854775807) :
    Calls Try.prog 12 #[.pointer (some ⟨b, 0, none⟩), .int .i64 i, .string t] w fun e w' => e = .returned (.int .i64 (writeE s i t)) ∧ PRO w0 w' b (writeS s i t) r s2 O ∧ Kept O w w' := by
  obtain ⟨F, h1, h2⟩ := h.goP
  exact (write_any b s F i t w h1 hg hn hc ht).mono fun e w' ⟨he, hk⟩ => ⟨he, h2 _ _ hk⟩
theorem po_sync (h : PRO w0 w b s r s2 O) (hg : Good s) (hn : s.wait.length ≤ 1000) (hc : s.n ≤ 1000000) :
    Calls Try.prog 14 #[.pointer (some ⟨b, 0, none⟩)] w fun e w' => e = .returned (.int .i64 (syncE s)) ∧ PRO w0 w' b (syncS s) r s2 O ∧ Kept O w w' := by
  obtain ⟨F, h1, h2⟩ := h.goP
  exact (sync_any b s F w h1 hg hn hc).mono fun e w' ⟨he, hk⟩ => ⟨he, h2 _ _ hk⟩
theorem po_cut (h : PRO w0 w b s r s2 O) (k : Int) (keep : Nat) (hk : k < 9223372036854775808) (hkp : keep < 18446744073709551616) :
    Calls Try.prog 16 #[.pointer (some ⟨b, 0, none⟩), .int .i64 k, .int .u64 keep] w fun e w' => e = .returned (.tuple #[]) ∧ PRO w0 w' b (cut s k keep) r s2 O ∧ Kept O w w' := by
  obtain ⟨F, h1, h2⟩ := h.goP
  exact (cut_any b s F k keep w h1 hk hkp).mono fun e w' ⟨he, hk⟩ => ⟨he, h2 _ _ hk⟩
theorem po_crash (h : PRO w0 w b s r s2 O) (hg : Good s) (hn : s.wait.length ≤ 1000) (keep : Nat) (hkp : keep < 18446744073709551616) :
    Calls Try.prog 18 #[.pointer (some ⟨b, 0, none⟩), .int .u64 keep] w fun e w' => e = .returned (.tuple #[]) ∧ PRO w0 w' b (crash s keep) r s2 O ∧ Kept O w w' := by
  obtain ⟨F, h1, h2⟩ := h.goP
  exact (crash_any b s F keep w h1 hg hn hkp).mono fun e w' ⟨he, hk⟩ => ⟨he, h2 _ _ hk⟩
theorem po_power (h : PRO w0 w b s r s2 O)  :
    Calls Try.prog 20 #[.pointer (some ⟨b, 0, none⟩)] w fun e w' => e = .returned (.tuple #[]) ∧ PRO w0 w' b (power s) r s2 O ∧ Kept O w w' := by
  obtain ⟨F, h1, h2⟩ := h.goP
  exact (power_any b s F w h1).mono fun e w' ⟨he, hk⟩ => ⟨he, h2 _ _ hk⟩
theorem ro_write (h : PRO w0 w b s r s2 O) (hg : Good s2) (hn : s2.wait.length ≤ 900) (hc : s2.n ≤ 1000000) (i : Int) (t : ByteArray) (ht : t.size ≤ 9223372036854775807) :
    Calls Try.prog 13 #[.pointer (some ⟨r, 0, none⟩), .int .i64 i, .string t] w fun e w' => e = .returned (.int .i64 (writeE s2 i t)) ∧ PRO w0 w' b s r (writeS s2 i t) O ∧ Kept O w w' := by
  obtain ⟨F, h1, h2⟩ := h.goR
  exact (rwrite_any r s2 F i t w h1 hg hn hc ht).mono fun e w' ⟨he, hk⟩ => ⟨he, h2 _ _ hk⟩
theorem ro_sync (h : PRO w0 w b s r s2 O) (hg : Good s2) (hc : s2.n ≤ 1000000) :
    Calls Try.prog 15 #[.pointer (some ⟨r, 0, none⟩)] w fun e w' => e = .returned (.int .i64 (syncE s2)) ∧ PRO w0 w' b s r (syncS s2) O ∧ Kept O w w' := by
  obtain ⟨F, h1, h2⟩ := h.goR
  exact (rsync_any r s2 F w h1 hg hc).mono fun e w' ⟨he, hk⟩ => ⟨he, h2 _ _ hk⟩
theorem ro_cut (h : PRO w0 w b s r s2 O) (k : Int) (keep : Nat) :
    Calls Try.prog 17 #[.pointer (some ⟨r, 0, none⟩), .int .i64 k, .int .u64 keep] w fun e w' => e = .returned (.tuple #[]) ∧ PRO w0 w' b s r (cut s2 k keep) O ∧ Kept O w w' := by
  obtain ⟨F, h1, h2⟩ := h.goR
  exact (rcut_any r s2 F k keep w h1).mono fun e w' ⟨he, hk⟩ => ⟨he, h2 _ _ hk⟩
theorem ro_crash (h : PRO w0 w b s r s2 O) (hg : Good s2) (keep : Nat) :
    Calls Try.prog 19 #[.pointer (some ⟨r, 0, none⟩), .int .u64 keep] w fun e w' => e = .returned (.tuple #[]) ∧ PRO w0 w' b s r (crash s2 keep) O ∧ Kept O w w' := by
  obtain ⟨F, h1, h2⟩ := h.goR
  exact (rcrash_any r s2 F keep w h1 hg).mono fun e w' ⟨he, hk⟩ => ⟨he, h2 _ _ hk⟩
theorem ro_power (h : PRO w0 w b s r s2 O)  :
    Calls Try.prog 21 #[.pointer (some ⟨r, 0, none⟩)] w fun e w' => e = .returned (.tuple #[]) ∧ PRO w0 w' b s r (power s2) O ∧ Kept O w w' := by
  obtain ⟨F, h1, h2⟩ := h.goR
  exact (rpower_any r s2 F w h1).mono fun e w' ⟨he, hk⟩ => ⟨he, h2 _ _ hk⟩
end
end Go.Proofs.Ytodllmgcoclnmaa
