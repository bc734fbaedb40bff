/-
  A map, and the document's own, beside blocks that no call of them touches; each call's contract so.
-/
import Derived.Test.YtlffgfkcgldekaaRalloc
namespace Go.Proofs.Ytlffgfkcgldekaa
open Go.RowKit

theorem base_of {F F' : Nat → Prop} {B : Nat} {w : World} (h : ∀ k, F k → B ≤ k) (hw : B ≤ w.heap.size) (hF : ∀ k, F' k → F k ∨ w.heap.size ≤ k) : ∀ k, F' k → B ≤ k := fun k hk => by
  rcases hF k hk with h1 | h1
  · exact h k h1
  · omega
/-- The blocks O are as they were. -/
def Kept (O : Nat → Prop) (w w' : World) : Prop := ∀ k, O k → w'.heap[k]? = w.heap[k]?
theorem Kept.cell {O : Nat → Prop} {w w' : World} (h : Kept O w w') {k i : Nat} (hk : O k) : w'.cell? ⟨k, i, none⟩ = w.cell? ⟨k, i, none⟩ := World.cell?_of_block (h k hk)
theorem Kept.owns {O : Nat → Prop} {w w' : World} (h : Kept O w w') {base e size n : Nat} {v : Value} {xs : List Value} (ho : w.ownsRow base e size v n xs) (hO : ∀ g, v.ownBlock = some g → O g) : w'.ownsRow base e size v n xs := owns_kept ho fun g hg => h g (hO g hg)
theorem Kept.Owns {O : Nat → Prop} {w w' : World} (h : Kept O w w') {base : Nat} {v : Value} {l : List Rg} (ho : Owns w base v l) (hO : ∀ g, v.ownBlock = some g → O g) : Owns w' base v l := owns_kept ho fun g hg => h g (hO g hg)
theorem Kept.row {O : Nat → Prop} {w w' : World} (h : Kept O w w') {b t n : Nat} {f : Nat → Value} (hr : w.rowIs b t n f) (hk : O b) : w'.rowIs b t n f := hr.of_block (h b hk)
theorem Kept.of_below {O : Nat → Prop} {w w' : World} {B : Nat} (h : Below B w w') (hO : ∀ k, O k → k < B) : Kept O w w' := fun k hk => h.block k (hO k hk)

/-- A plate s in block b, beside the blocks O. -/
def PIO (w0 w : World) (b : Nat) (s : St) (O : Nat → Prop) : Prop := ∃ F, PB w b s F ∧ (∀ k, F k → w0.heap.size ≤ k) ∧ Below w0.heap.size w0 w ∧ ∀ k, O k → ¬ F k ∧ k < w.heap.size ∧ w0.heap.size ≤ k
/-- And the document's own. -/
def PRO (w0 w : World) (b : Nat) (s : St) (r : Nat) (s2 : St) (O : Nat → Prop) : Prop := ∃ F G, PB w b s F ∧ RB w r s2 G ∧ (∀ k, F k → ¬ G k) ∧ (∀ k, F k → w0.heap.size ≤ k) ∧ (∀ k, G k → w0.heap.size ≤ k) ∧ Below w0.heap.size w0 w ∧ ∀ k, O k → ¬ F k ∧ ¬ G k ∧ k < w.heap.size ∧ w0.heap.size ≤ k
theorem PIO.own {w0 w : World} {b : Nat} {s : St} {O : Nat → Prop} (h : PIO w0 w b s O) {k : Nat} (hk : O k) : k < w.heap.size ∧ w0.heap.size ≤ k := by
  obtain ⟨F, h1, h2, h3, h4⟩ := h; exact (h4 k hk).2
theorem PRO.own {w0 w : World} {b r : Nat} {s s2 : St} {O : Nat → Prop} (h : PRO w0 w b s r s2 O) {k : Nat} (hk : O k) : k < w.heap.size ∧ w0.heap.size ≤ k := by
  obtain ⟨F, G, h1, h2, h3, h4, h5, h6, h7⟩ := h; exact (h7 k hk).2.2
/-- The blocks O turn, and new ones. -/
theorem PIO.turn {w0 w w' : World} {b : Nat} {s : St} {O O' : Nat → Prop} (h : PIO w0 w b s O) (hk : Keeps O w w') (hO : ∀ k, O' k → O k ∨ w.heap.size ≤ k) (hlt : ∀ k, O' k → k < w'.heap.size) : PIO w0 w' b s O' := by
  obtain ⟨F, h1, h2, h3, h4⟩ := h
  have hl := h1.lt
  refine ⟨F, h1.keeps hk (fun k hf ho => (h4 k ho).1 hf), h2, hk.below h3 h3.size (fun k ho => (h4 k ho).2.2), fun k ho => ⟨fun hf => ?_, hlt k ho, ?_⟩⟩
  · rcases hO k ho with h | h
    · exact (h4 k h).1 hf
    · have := hl k hf; omega
  · rcases hO k ho with h | h
    · exact (h4 k h).2.2
    · exact Nat.le_trans h3.size h
theorem PRO.turn {w0 w w' : World} {b r : Nat} {s s2 : St} {O O' : Nat → Prop} (h : PRO w0 w b s r s2 O) (hk : Keeps O w w') (hO : ∀ k, O' k → O k ∨ w.heap.size ≤ k) (hlt : ∀ k, O' k → k < w'.heap.size) : PRO w0 w' b s r s2 O' := by
  obtain ⟨F, G, h1, h2, h3, h4, h5, h6, h7⟩ := h
  have hl := h1.lt
  have hl2 := h2.lt
  refine ⟨F, G, h1.keeps hk (fun k hf ho => (h7 k ho).1 hf), h2.keeps hk (fun k hf ho => (h7 k ho).2.1 hf), h3, h4, h5, hk.below h6 h6.size (fun k ho => (h7 k ho).2.2.2), fun k ho => ⟨fun hf => ?_, fun hf => ?_, hlt k ho, ?_⟩⟩
  · rcases hO k ho with h | h
    · exact (h7 k h).1 hf
    · have := hl k hf; omega
  · rcases hO k ho with h | h
    · exact (h7 k h).2.1 hf
    · have := hl2 k hf; omega
  · rcases hO k ho with h | h
    · exact (h7 k h).2.2.2
    · exact Nat.le_trans h6.size h
theorem PIO.below {w0 w w' : World} {b : Nat} {s : St} {O : Nat → Prop} (h : PIO w0 w b s O) (hb : Below w.heap.size w w') : PIO w0 w' b s O :=
  h.turn (Keeps.of_below hb) (fun _ hk => .inl hk) (fun _ hk => Nat.lt_of_lt_of_le (h.own hk).1 hb.size)
theorem PRO.below {w0 w w' : World} {b r : Nat} {s s2 : St} {O : Nat → Prop} (h : PRO w0 w b s r s2 O) (hb : Below w.heap.size w w') : PRO w0 w' b s r s2 O :=
  h.turn (Keeps.of_below hb) (fun _ hk => .inl hk) (fun _ hk => Nat.lt_of_lt_of_le (h.own hk).1 hb.size)
theorem PIO.bel {w0 w : World} {b : Nat} {s : St} {O : Nat → Prop} (h : PIO w0 w b s O) : Below w0.heap.size w0 w := by
  obtain ⟨F, h1, h2, h3, h4⟩ := h; exact h3
theorem PRO.bel {w0 w : World} {b r : Nat} {s s2 : St} {O : Nat → Prop} (h : PRO w0 w b s r s2 O) : Below w0.heap.size w0 w := by
  obtain ⟨F, G, h1, h2, h3, h4, h5, h6, h7⟩ := h; exact h6

theorem PIO.go {w0 w : World} {b : Nat} {s : St} {O : Nat → Prop} (h : PIO w0 w b s O) : ∃ F, PB w b s F ∧ ∀ w' s', Goes F w w' (PB w' b s') → PIO w0 w' b s' O ∧ Kept O w w' := by
  obtain ⟨F, h1, h2, h3, h4⟩ := h
  refine ⟨F, h1, fun w' s' ⟨F', k1, k2, k3⟩ => ⟨⟨F', k1, base_of h2 h3.size k2, k3.below h3 h3.size h2, fun k hk => ⟨fun hf => ?_, Nat.lt_of_lt_of_le (h4 k hk).2.1 k3.size, (h4 k hk).2.2⟩⟩, fun k hk => k3.block k (h4 k hk).2.1 (h4 k hk).1⟩⟩
  rcases k2 k hf with h | h
  · exact (h4 k hk).1 h
  · have := (h4 k hk).2.1; omega
theorem PRO.goP {w0 w : World} {b r : Nat} {s s2 : St} {O : Nat → Prop} (h : PRO w0 w b s r s2 O) : ∃ F, PB w b s F ∧ ∀ w' s', Goes F w w' (PB w' b s') → PRO w0 w' b s' r s2 O ∧ Kept O w w' := by
  obtain ⟨F, G, h1, h2, h3, h4, h5, h6, h7⟩ := h
  refine ⟨F, h1, fun w' s' ⟨F', k1, k2, k3⟩ => ⟨⟨F', G, k1, h2.keeps k3 (fun k hg hf => h3 k hf hg), fun k hf hg => ?_, base_of h4 h6.size k2, h5, k3.below h6 h6.size h4, fun k hk => ⟨fun hf => ?_, (h7 k hk).2.1, Nat.lt_of_lt_of_le (h7 k hk).2.2.1 k3.size, (h7 k hk).2.2.2⟩⟩, fun k hk => k3.block k (h7 k hk).2.2.1 (h7 k hk).1⟩⟩
  · rcases k2 k hf with h | h
    · exact h3 k h hg
    · have := h2.lt k hg; omega
  · rcases k2 k hf with h | h
    · exact (h7 k hk).1 h
    · have := (h7 k hk).2.2.1; omega
theorem PRO.goR {w0 w : World} {b r : Nat} {s s2 : St} {O : Nat → Prop} (h : PRO w0 w b s r s2 O) : ∃ G, RB w r s2 G ∧ ∀ w' s', Goes G w w' (RB w' r s') → PRO w0 w' b s r s' O ∧ Kept O w w' := by
  obtain ⟨F, G, h1, h2, h3, h4, h5, h6, h7⟩ := h
  refine ⟨G, h2, fun w' s' ⟨G', k1, k2, k3⟩ => ⟨⟨F, G', h1.keeps k3 (fun k hf hg => h3 k hf hg), k1, fun k hf hg => ?_, h4, base_of h5 h6.size k2, k3.below h6 h6.size h5, fun k hk => ⟨(h7 k hk).1, fun hf => ?_, Nat.lt_of_lt_of_le (h7 k hk).2.2.1 k3.size, (h7 k hk).2.2.2⟩⟩, fun k hk => k3.block k (h7 k hk).2.2.1 (h7 k hk).2.1⟩⟩
  · rcases k2 k hg with h | h
    · exact h3 k hf h
    · have := h1.lt k hf; omega
  · rcases k2 k hf with h | h
    · exact (h7 k hk).2.1 h
    · have := (h7 k hk).2.2.1; omega

/-- A new map. -/
theorem PIO.start {w0 w w' : World} {b : Nat} {s : St} (hw : Below w0.heap.size w0 w) (h : Goes (fun _ => False) w w' (PB w' b s)) : PIO w0 w' b s (fun _ => False) := by
  obtain ⟨F, h1, h2, h3⟩ := h
  exact ⟨F, h1, fun k hk => by rcases h2 k hk with h | h; (exact h.elim); (exact Nat.le_trans hw.size h), h3.below hw hw.size (fun _ h => h.elim), fun _ h => h.elim⟩
theorem PRO.start {w0 w w' : World} {b r : Nat} {s s2 : St} {O : Nat → Prop} (h : PIO w0 w b s O) (k : Goes (fun _ => False) w w' (RB w' r s2)) : PRO w0 w' b s r s2 O := by
  obtain ⟨F, h1, h2, h3, h4⟩ := h
  obtain ⟨G, k1, k2, k3⟩ := k
  have hlt := h1.lt
  refine ⟨F, G, h1.keeps k3 (fun _ _ h => h), k1, fun k hf hg => ?_, h2, fun k hk => ?_, k3.below h3 h3.size (fun _ h => h.elim), fun k hk => ⟨(h4 k hk).1, fun hg => ?_, Nat.lt_of_lt_of_le (h4 k hk).2.1 k3.size, (h4 k hk).2.2⟩⟩
  · rcases k2 k hg with h | h
    · exact h
    · have := hlt k hf; omega
  · rcases k2 k hk with h | h
    · exact h.elim
    · have := h3.size; omega
  · rcases k2 k hg with h | h
    · exact h
    · have := (h4 k hk).2.1; omega

section
variable {w0 w : World} {b r : Nat} {s s2 : St} {O : Nat → Prop}
theorem io_alloc (h : PIO w0 w b s O) (hg : Good s) (k : Int) :
    Calls Try.prog 13 #[.pointer (some ⟨b, 0, none⟩), .int .i64 k] w fun e w' => e = .returned (.tuple #[.agg #[.int .i64 (allocR s k).f, .int .i64 (allocR s k).t], .int .i64 (allocE s k)]) ∧ PIO w0 w' b (allocS s k) O ∧ Kept O w w' := by
  obtain ⟨F, h1, h2⟩ := h.go
  exact (alloc_any b s F k w h1 hg).mono fun _ _ ⟨he, hk⟩ => ⟨he, h2 _ _ hk⟩
theorem io_take (h : PIO w0 w b s O) (hg : Good s) (q : Rg) :
    Calls Try.prog 15 #[.pointer (some ⟨b, 0, none⟩), .agg #[.int .i64 q.f, .int .i64 q.t]] w fun e w' => e = .returned (.int .i64 (takeE s q)) ∧ PIO w0 w' b (takeS s q) O ∧ Kept O w w' := by
  obtain ⟨F, h1, h2⟩ := h.go
  exact (take_any b s F q w h1 hg).mono fun _ _ ⟨he, hk⟩ => ⟨he, h2 _ _ hk⟩
theorem io_give (h : PIO w0 w b s O) (hg : Good s) (q : Rg) :
    Calls Try.prog 17 #[.pointer (some ⟨b, 0, none⟩), .agg #[.int .i64 q.f, .int .i64 q.t]] w fun e w' => e = .returned (.int .i64 (giveE s q)) ∧ PIO w0 w' b (giveS s q) O ∧ Kept O w w' := by
  obtain ⟨F, h1, h2⟩ := h.go
  exact (give_any b s F q w h1 hg).mono fun _ _ ⟨he, hk⟩ => ⟨he, h2 _ _ hk⟩
theorem po_alloc (h : PRO w0 w b s r s2 O) (hg : Good s) (k : Int) :
    Calls Try.prog 13 #[.pointer (some ⟨b, 0, none⟩), .int .i64 k] w fun e w' => e = .returned (.tuple #[.agg #[.int .i64 (allocR s k).f, .int .i64 (allocR s k).t], .int .i64 (allocE s k)]) ∧ PRO w0 w' b (allocS s k) r s2 O ∧ Kept O w w' := by
  obtain ⟨F, h1, h2⟩ := h.goP
  exact (alloc_any b s F k w h1 hg).mono fun _ _ ⟨he, hk⟩ => ⟨he, h2 _ _ hk⟩
theorem po_take (h : PRO w0 w b s r s2 O) (hg : Good s) (q : Rg) :
    Calls Try.prog 15 #[.pointer (some ⟨b, 0, none⟩), .agg #[.int .i64 q.f, .int .i64 q.t]] w fun e w' => e = .returned (.int .i64 (takeE s q)) ∧ PRO w0 w' b (takeS s q) r s2 O ∧ Kept O w w' := by
  obtain ⟨F, h1, h2⟩ := h.goP
  exact (take_any b s F q w h1 hg).mono fun _ _ ⟨he, hk⟩ => ⟨he, h2 _ _ hk⟩
theorem po_give (h : PRO w0 w b s r s2 O) (hg : Good s) (q : Rg) :
    Calls Try.prog 17 #[.pointer (some ⟨b, 0, none⟩), .agg #[.int .i64 q.f, .int .i64 q.t]] w fun e w' => e = .returned (.int .i64 (giveE s q)) ∧ PRO w0 w' b (giveS s q) r s2 O ∧ Kept O w w' := by
  obtain ⟨F, h1, h2⟩ := h.goP
  exact (give_any b s F q w h1 hg).mono fun _ _ ⟨he, hk⟩ => ⟨he, h2 _ _ hk⟩
theorem ro_alloc (h : PRO w0 w b s r s2 O) (hn : s2.n ≤ 4096) (k : Int) :
    Calls Try.prog 14 #[.pointer (some ⟨r, 0, none⟩), .int .i64 k] w fun e w' => e = .returned (.tuple #[.agg #[.int .i64 (allocR s2 k).f, .int .i64 (allocR s2 k).t], .int .i64 (allocE s2 k)]) ∧ PRO w0 w' b s r (allocS s2 k) O ∧ Kept O w w' := by
  obtain ⟨F, h1, h2⟩ := h.goR
  exact (ralloc_any r s2 F k w h1 hn).mono fun _ _ ⟨he, hk⟩ => ⟨he, h2 _ _ hk⟩
theorem ro_take (h : PRO w0 w b s r s2 O) (hn : s2.n ≤ 4096) (q : Rg) :
    Calls Try.prog 16 #[.pointer (some ⟨r, 0, none⟩), .agg #[.int .i64 q.f, .int .i64 q.t]] w fun e w' => e = .returned (.int .i64 (takeE s2 q)) ∧ PRO w0 w' b s r (takeS s2 q) O ∧ Kept O w w' := by
  obtain ⟨F, h1, h2⟩ := h.goR
  exact (rtake_any r s2 F q w h1 hn).mono fun _ _ ⟨he, hk⟩ => ⟨he, h2 _ _ hk⟩
theorem ro_give (h : PRO w0 w b s r s2 O) (hn : s2.n ≤ 4096) (q : Rg) :
    Calls Try.prog 18 #[.pointer (some ⟨r, 0, none⟩), .agg #[.int .i64 q.f, .int .i64 q.t]] w fun e w' => e = .returned (.int .i64 (giveE s2 q)) ∧ PRO w0 w' b s r (giveS s2 q) O ∧ Kept O w w' := by
  obtain ⟨F, h1, h2⟩ := h.goR
  exact (rgive_any r s2 F q w h1 hn).mono fun _ _ ⟨he, hk⟩ => ⟨he, h2 _ _ hk⟩
theorem io_list (h : PIO w0 w b s O) (hg : Good s) : Calls Try.prog 20 #[.pointer (some ⟨b, 0, none⟩)] w fun e w' => RowOf w w' (runs s) e ∧ Below w.heap.size w w' := by
  obtain ⟨F, h1, -⟩ := h.go; exact list_any b s F w h1 hg
theorem io_free (h : PIO w0 w b s O) (hg : Good s) : Calls Try.prog 11 #[.pointer (some ⟨b, 0, none⟩)] w fun e w' => e = .returned (.int .i64 (cnt s.p s.n)) ∧ Below w.heap.size w w' := by
  obtain ⟨F, h1, -⟩ := h.go; exact frees_any b s F w h1 hg
theorem io_is (h : PIO w0 w b s O) (hg : Good s) (i : Int) : Calls Try.prog 22 #[.pointer (some ⟨b, 0, none⟩), .int .i64 i] w fun e w' => e = .returned (.bool (s.p i)) ∧ Below w.heap.size w w' := by
  obtain ⟨F, h1, -⟩ := h.go; exact iss_any b s F i w h1 hg
theorem po_list (h : PRO w0 w b s r s2 O) (hg : Good s) : Calls Try.prog 20 #[.pointer (some ⟨b, 0, none⟩)] w fun e w' => RowOf w w' (runs s) e ∧ Below w.heap.size w w' := by
  obtain ⟨F, h1, -⟩ := h.goP; exact list_any b s F w h1 hg
theorem po_free (h : PRO w0 w b s r s2 O) (hg : Good s) : Calls Try.prog 11 #[.pointer (some ⟨b, 0, none⟩)] w fun e w' => e = .returned (.int .i64 (cnt s.p s.n)) ∧ Below w.heap.size w w' := by
  obtain ⟨F, h1, -⟩ := h.goP; exact frees_any b s F w h1 hg
theorem po_is (h : PRO w0 w b s r s2 O) (hg : Good s) (i : Int) : Calls Try.prog 22 #[.pointer (some ⟨b, 0, none⟩), .int .i64 i] w fun e w' => e = .returned (.bool (s.p i)) ∧ Below w.heap.size w w' := by
  obtain ⟨F, h1, -⟩ := h.goP; exact iss_any b s F i w h1 hg
theorem ro_list (h : PRO w0 w b s r s2 O) (hn : s2.n ≤ 4096) : Calls Try.prog 21 #[.pointer (some ⟨r, 0, none⟩)] w fun e w' => RowOf w w' (runs s2) e ∧ Below w.heap.size w w' := by
  obtain ⟨F, h1, -⟩ := h.goR; exact rlist_any r s2 F w h1 hn
theorem ro_free (h : PRO w0 w b s r s2 O) (hn : s2.n ≤ 4096) : Calls Try.prog 12 #[.pointer (some ⟨r, 0, none⟩)] w fun e w' => e = .returned (.int .i64 (cnt s2.p s2.n)) ∧ w = w' := by
  obtain ⟨F, h1, -⟩ := h.goR; exact rfree_any r s2 F w h1 hn
theorem ro_is (h : PRO w0 w b s r s2 O) (hg : Good s2) (i : Int) : Calls Try.prog 23 #[.pointer (some ⟨r, 0, none⟩), .int .i64 i] w fun e w' => e = .returned (.bool (s2.p i)) ∧ w = w' := by
  obtain ⟨F, h1, -⟩ := h.goR; exact ris_any r s2 F i w h1 hg
end

/-! ### shown -/
theorem cnt_all (n : Nat) : ∀ k : Nat, k ≤ n → cnt (fun i => decide (0 ≤ i ∧ i < (n : Int))) k = (k : Int)
  | 0, _ => rfl
  | k + 1, h => by
    have h1 : (0 : Int) ≤ (k : Int) := by omega
    have h2 : (k : Int) < (n : Int) := by omega
    rw [cnt, cnt_all n k (by omega)]
    simp only [h1, h2, and_self, decide_true, if_pos]
    omega
theorem cnt_fresh (n : Int) : cnt (fresh n).p (fresh n).n = (size0 n : Int) := cnt_all _ _ (Nat.le_refl _)
set_option maxRecDepth 100000 in
theorem shown_any (w : World) : Calls Try.prog 24 #[] w fun e w' => e = .returned (.bool true) ∧ Below w.heap.size w w' := by
  have HN := Lib.hid (new_any 5 w)
  have HF := Lib.hid (fun w1 (h : PIO w w1 (w.heap.size + 1) (fresh 5) (fun _ => False)) => show Calls Try.prog 11 #[.pointer (some ⟨w.heap.size + 1, 0, none⟩)] w1 fun e w' => e = .returned (.int .i64 5) ∧ Below w1.heap.size w1 w' from by
    have := io_free h (Good.fresh 5)
    rw [cnt_fresh] at this; exact this)
  go_enter Try.func24, Try.ntmps24
  go_wp2_with (first
    | (go_at_call 9; (with_reducible refine HN.out.mono ?_); rintro e w1 ⟨rfl, hk⟩; have H1 := Lib.hid (PIO.start (Below.refl _ _) hk); clear hk)
    | (go_at_call 11; (with_reducible refine (HF.out _ H1.out).mono ?_); rintro e w2 ⟨rfl, hb⟩; have H2 := Lib.hid (H1.out.bel.trans (hb.mono H1.out.bel.size)); clear hb)
    | fail)
  go_ret
  exact ⟨rfl, H2.out⟩
end Go.Proofs.Ytlffgfkcgldekaa
