/-
  Texts in a row of their own beside a plate; what is read behind a sync.
-/
import Derived.Test.YtodllmgcoclnmaaFree
namespace Go.Proofs.Ytodllmgcoclnmaa
open Go.RowKit

theorem texts_empty (w : World) : (w.alloc (.cells #[] 9)).ownsRow 0 9 1 (.slice (some ⟨w.heap.size, 0, none⟩) 0 0) 0 (scells []) :=
  World.ownsRow_lit (base := 0) (e := 9) (size := 1) w #[] 0 (Nat.zero_le _) (by simp) rfl
theorem texts_one (w : World) (x : List UInt8) : (w.alloc (.cells #[.string (str x)] 9)).ownsRow 0 9 1 (.slice (some ⟨w.heap.size, 0, none⟩) 1 1) 1 (scells [x]) :=
  World.ownsRow_lit (base := 0) (e := 9) (size := 1) w #[.string (str x)] 1 (Nat.zero_le _) (by unfold maxLen; simp) rfl
theorem scells_more (l : List (List UInt8)) (x : List UInt8) : scells l ++ [.string (str x)] = scells (l ++ [x]) := by
  unfold scells; rw [List.flatMap_append]; rfl
theorem texts_get {w : World} {v : Value} {l : List (List UInt8)} (h : w.ownsRow 0 9 1 v l.length (scells l)) :
    ∃ A c, v = .slice A l.length c ∧ ∀ i x, l[i]? = some x → ∃ g, A = some ⟨g, 0, none⟩ ∧ w.cell? ⟨g, i, none⟩ = some (.string (str x)) := by
  rcases owns_form (f := fun x => [Value.string (str x)]) h (scells_one _) with ⟨hv, h0⟩ | ⟨g, cap, hv, -, -, -, hat⟩
  · exact ⟨none, 0, by rw [hv, h0]; rfl, fun i x hx => by rw [h0] at hx; simp at hx⟩
  · exact ⟨_, cap, hv, fun i x hx => ⟨g, rfl, by have := hat i x hx 0 _ rfl; simpa using this⟩⟩
theorem texts_form {w : World} {v : Value} {l : List (List UInt8)} (h : w.ownsRow 0 9 1 v l.length (scells l)) (hl : 0 < l.length) : ∃ g cap, v = .slice (some ⟨g, 0, none⟩) l.length cap := by
  rcases owns_form (f := fun x => [Value.string (str x)]) h (scells_one _) with ⟨-, h0⟩ | ⟨g, cap, hv, -, -, -, -⟩
  · rw [h0] at hl; exact absurd hl (Nat.lt_irrefl _)
  · exact ⟨g, cap, hv⟩
theorem texts_cell {w : World} {g n cap : Nat} {l : List (List UInt8)} (h : w.ownsRow 0 9 1 (.slice (some ⟨g, 0, none⟩) n cap) l.length (scells l)) {i : Nat} {x : List UInt8} (hx : l[i]? = some x) : w.cell? ⟨g, i, none⟩ = some (.string (str x)) := by
  obtain ⟨A, c, hv, hget⟩ := texts_get h
  obtain ⟨g', hA, hc⟩ := hget i x hx
  simp only [Value.slice.injEq] at hv
  rw [hA] at hv
  simp only [Option.some.injEq, Addr.mk.injEq, and_true] at hv
  rw [hv.1]; exact hc
/-- The row's block. -/
def ownB (v : Value) : Nat → Prop := fun k => v.ownBlock = some k
theorem texts_start {w0 w : World} {b : Nat} {s : St} (P : PIn w0 w b s) (c : Array Value) : PIO w0 (w.alloc (.cells c 9)) b s (ownB (.slice (some ⟨w.heap.size, 0, none⟩) c.size c.size)) :=
  P.also ((Below.refl _ _).alloc (Nat.le_refl _) _) (fun k hk => by simp only [ownB, Value.ownBlock, Option.some.injEq] at hk; subst hk; simp)
theorem texts_append {w0 w : World} {b : Nat} {s : St} {v : Value} {l : List (List UInt8)} (P : PIO w0 w b s (ownB v)) (h : w.ownsRow 0 9 1 v l.length (scells l)) (hn : l.length ≤ 1000) (x : List UInt8) :
    ∃ u w2, AppS Try.prog 29 (w.alloc (.cells #[.string (str x)] 9)) v (.slice (some ⟨w.heap.size, 0, none⟩) 1 1) ∧
      appV Try.prog 29 (w.alloc (.cells #[.string (str x)] 9)) v (.slice (some ⟨w.heap.size, 0, none⟩) 1 1) = u ∧
      appW Try.prog 29 (w.alloc (.cells #[.string (str x)] 9)) v (.slice (some ⟨w.heap.size, 0, none⟩) 1 1) = w2 ∧
      PIO w0 w2 b s (ownB u) ∧ w2.ownsRow 0 9 1 u (l ++ [x]).length (scells (l ++ [x])) := by
  obtain ⟨g, cap, w2, hrun, hown, hgrow, hat⟩ := append_str w v l.length (scells l) h (str x) hn
  obtain ⟨ha1, ha2, ha3⟩ := app_of hrun
  refine ⟨_, w2, ha1, ha2, ha3, ?_, ?_⟩
  · refine P.turn (Keeps.grown (Keeps.of_below ((Below.refl _ w).alloc (Nat.le_refl _) (.cells #[.string (str x)] 9))) hgrow (fun g hg => .inl hg)) ?_ ?_
    · intro k hk
      simp only [ownB, Value.ownBlock, Option.some.injEq] at hk
      subst hk
      rcases hat with h | h
      · exact .inl h
      · right; omega
    · intro k hk
      exact owns_lt hown hk
  · rw [List.length_append, ← scells_more]
    exact hown
theorem pad_str {t : ByteArray} : t ++ str (zeros (32 - t.size)) = str (pad t) := by
  conv => lhs; rw [← str_of t]
  rw [str_append, str_of]; rfl

/-- What a sync leaves is what was read. -/
theorem done_seen {ws : List Wr} {is : List (List UInt8)} (h : ∀ i, i < is.length → (is.getD i []).length = 32) (hw : ∀ x ∈ ws, x.i < is.length ∧ x.b.length = 32) (i : Nat) (j : Nat) : (done (fun _ => 32) ws is j).getD i [] = seen ws i (is.getD i []) j := by
  induction j with
  | zero => rfl
  | succ j ih =>
    unfold done seen
    split
    · exact ih
    · next x hx =>
      obtain ⟨h1, h2⟩ := hw x (List.mem_of_getElem? hx)
      rw [getD_set (by rw [done_length]; exact h1)]
      by_cases e : i = x.i
      · rw [if_pos e, if_pos e.symm, ← e]
        exact mix_all h2 (done_sec h hw j i (by rw [e]; exact h1))
      · rw [if_neg e, if_neg (fun q => e q.symm)]
        exact ih
theorem Fr.syncS {s : St} {k : Nat} (h : Fr s k) : Go.Proofs.Ytodllmgcoclnmaa.syncS s = whole { s with n := s.n + 1 } := by
  unfold Go.Proofs.Ytodllmgcoclnmaa.syncS
  rw [if_neg (by simp [h.gone]), if_neg (by rw [h.left]; omega), count_free h.left]
theorem Fr.wrong_in {s : St} {k : Nat} (h : Fr s k) (i : Nat) (hi : i < 9) : Go.Proofs.Ytodllmgcoclnmaa.wrong s i = 0 := by
  rw [h.wrong, if_neg (by omega)]
theorem Fr.read {s : St} {k : Nat} (h : Fr s k) (i : Nat) (hi : i < 9) : readV s i = readB s i := by
  unfold readV
  rw [h.wrong_in i hi, if_neg (by omega), Int.toNat_natCast]
theorem Fr.read_sync {s : St} {k : Nat} (h : Fr s k) (i : Nat) (hi : i < 9) : readV (Go.Proofs.Ytodllmgcoclnmaa.syncS s) i = readV s i := by
  rw [h.sync.1.read i hi, h.read i hi, h.syncS]
  unfold readB
  show (done (fun _ => 32) s.wait s.is s.wait.length).getD i [] = _
  exact done_seen h.good.sec h.good.wt i _
theorem seen_append (ws : List Wr) (x : Wr) (i : Nat) (old : List UInt8) : ∀ j, j ≤ ws.length → seen (ws ++ [x]) i old j = seen ws i old j
  | 0, _ => rfl
  | j + 1, hj => by
    unfold seen
    rw [List.getElem?_append_left (by omega), seen_append ws x i old j (by omega)]
theorem Fr.read_write {s : St} {k : Nat} (h : Fr s k) {i : Int} {t : ByteArray} (he : Go.Proofs.Ytodllmgcoclnmaa.writeE s i t = 0) (j : Nat) (hj : j < 9) : readV (writeS s i t) j = if i = (j : Int) then pad t else readV s j := by
  obtain ⟨a1, a2, a3, a4⟩ := h.add he
  rw [(h.write i t).read j hj, h.read j hj]
  unfold readB
  rw [a1, a2, List.length_append]
  show seen (s.wait ++ [_]) j _ (s.wait.length + 1) = _
  rw [seen]
  simp only [List.getElem?_concat_length]
  rw [seen_append _ _ _ _ _ (Nat.le_refl _)]
  by_cases e : i = (j : Int)
  · rw [if_pos e, if_pos (by omega)]
  · rw [if_neg e, if_neg (by omega)]
theorem Fr.read_size {s : St} {k : Nat} (h : Fr s k) (i : Nat) (hi : i < 9) : (str (readV s i)).size = 32 := by
  rw [str_size, h.read i hi]
  exact readB_length h.good (by rw [h.len]; exact hi)
/-- The first j sectors, as they are read. -/
def reads (s : St) (j : Nat) : List (List UInt8) := (List.range j).map fun (i : Nat) => readV s (i : Int)
theorem reads_length (s : St) (j : Nat) : (reads s j).length = j := by simp [reads]
theorem reads_succ (s : St) (j : Nat) : reads s (j + 1) = reads s j ++ [readV s (j : Int)] := by simp [reads, List.range_succ]
theorem reads_get (s : St) {i j : Nat} (h : i < j) : (reads s j)[i]? = some (readV s (i : Int)) := by simp [reads, h]
end Go.Proofs.Ytodllmgcoclnmaa
