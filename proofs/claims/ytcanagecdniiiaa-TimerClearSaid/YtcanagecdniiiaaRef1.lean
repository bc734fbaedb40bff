/-
  The document's own timers (weirkeepref06), by contracts: what they are; ahead, without.
-/
import Derived.Test.YtcanagecdniiiaaPure
import Derived.Test.YtcanagecdniiiaaWhole
namespace Go.Proofs.Ytcanagecdniiiaa
open Go.RowKit

/-- The document's timers in block B, with the alarms l. -/
def Rf (w : World) (B : Nat) (l : List Al) : Prop := ∃ s, w.heap[B]? = some (.cells #[s] 28 (0, 0)) ∧ Owns 40 w 0 s l
theorem Rf.lt {w : World} {B : Nat} {l : List Al} (h : Rf w B l) : B < w.heap.size := by obtain ⟨s, h, _⟩ := h; exact (Array.getElem?_eq_some_iff.1 h).1
/-- A row of alarms is not the block of timers. -/
theorem row_ne_timers {w : World} {B base : Nat} {s v : Value} {l : List Al} (h : w.heap[B]? = some (.cells #[s] 28 (0, 0))) (ho : Owns 40 w base v l) : v.ownBlock ≠ some B := by
  rcases ho.2 with ⟨rfl, _⟩ | ⟨g, cap, cur, rfl, _, hg, _⟩
  · simp [Value.ownBlock]
  · intro e
    have : g = B := by simpa [Value.ownBlock] using e
    subst this
    rw [h] at hg
    cases hg
theorem Rf.open' {w : World} {B : Nat} {l : List Al} (h : Rf w B l) : ∃ s, w.cell? ⟨B, 0, none⟩ = some s ∧ w.frozen? ⟨B, 0, none⟩ = false ∧ Owns 40 w 0 s l ∧ s.ownBlock ≠ some B := by
  obtain ⟨s, h, ho⟩ := h
  refine ⟨s, ?_, ?_, ho, row_ne_timers h ho⟩
  · unfold World.cell?; simp only [h]; rfl
  · unfold World.frozen?; simp only [h]; simp
theorem Rf.kept {w w' : World} {B : Nat} {l : List Al} {row : Option Nat} (h : Rf w B l) (hg : w.grownBy w' row) (h1 : some B ≠ row) (h2 : ∀ g (cs : Array Value) fr, w.heap[g]? = some (.cells cs 40 fr) → some g ≠ row) : Rf w' B l := by
  have hl := h.lt
  obtain ⟨s, h, ho⟩ := h
  refine ⟨s, (hg.block B hl h1).trans h, ho.grown hg fun g hgg => ?_⟩
  rcases ho.2 with ⟨rfl, _⟩ | ⟨g', cap, cur, rfl, _, hg', _⟩
  · simp [Value.ownBlock] at hgg
  · have : g' = g := by simpa [Value.ownBlock] using hgg
    subst this
    exact h2 _ _ _ hg'
theorem Rf.below {w w' : World} {B : Nat} {l : List Al} (h : Rf w B l) (hb : Below w.heap.size w w') : Rf w' B l := h.kept (grown_of_below hb none) (by simp) (by simp)
theorem Rf.start (w : World) : Rf (w.alloc (.cells #[.slice none 0 0] 28)) w.heap.size [] := ⟨_, heap_alloc_new w _, Owns.nil _ _ _⟩
/-- The field is stored anew. -/
theorem Rf.anew {w w' : World} {B base : Nat} {l k : List Al} {v : Value} (h : Rf w B l) (hb : Below w.heap.size w w') (ho : Owns 40 w' base v k) : Rf (w'.setCell ⟨B, 0, none⟩ v) B k ∧ w.grownBy (w'.setCell ⟨B, 0, none⟩ v) (some B) := by
  have h' := h.below hb
  obtain ⟨s, hs, _⟩ := h'
  have hne := row_ne_timers hs ho
  refine ⟨⟨v, ?_, (ho.mono (Nat.zero_le _)).kept fun g hg => ?_⟩, ?_⟩
  · unfold World.setCell
    simp [Array.getElem?_modify, hs]
  · exact Below.heap_setCell _ _ _ _ (fun e => hne (by rw [hg, e]))
  · have hg := grown_of_below hb (some B)
    exact ⟨hg.os, hg.tape, hg.output, by simp [World.setCell]; exact hg.size, fun k hk hne => by rw [Below.heap_setCell _ _ _ _ (fun e => hne (by simpa using e))]; exact hg.block k hk hne⟩

theorem filter_take (l : List Al) (p : Al → Bool) (k : Nat) (m : Al) (h : l[k]? = some m) : (l.take (k + 1)).filter p = (l.take k).filter p ++ if p m then [m] else [] := by
  have hk : k < l.length := (List.getElem?_eq_some_iff.1 h).1
  rw [List.take_add_one, h, List.filter_append]
  congr 1
  cases hp : p m <;> simp [hp]
theorem filter_take_yes (l : List Al) (p : Al → Bool) (k : Nat) (m : Al) (h : l[k]? = some m) (hp : p m = true) : (l.take (k + 1)).filter p = (l.take k).filter p ++ [m] := by rw [filter_take l p k m h, if_pos hp]
theorem filter_take_no (l : List Al) (p : Al → Bool) (k : Nat) (m : Al) (h : l[k]? = some m) (hp : p m = false) : (l.take (k + 1)).filter p = (l.take k).filter p := by rw [filter_take l p k m h, hp]; simp
theorem filter_take_le (l : List Al) (p : Al → Bool) (k : Nat) : ((l.take k).filter p).length ≤ l.length := Nat.le_trans (List.length_filter_le _ _) (by rw [List.length_take]; omega)

set_option maxHeartbeats 1000000 in
theorem ahead_any (x y : Al) (w : World) :
    Calls Try.prog 30 #[x.val, y.val] w fun e w' => e = .returned (.bool (decide (x.lt y))) ∧ Below w.heap.size w w' := by
  by_cases h1 : x.n = y.n
  · have p1 : (x.n == y.n) = true := by simpa using h1
    by_cases h2 : x.a = y.a
    · have p2 : (x.a == y.a) = true := by simpa using h2
      have e : decide (x.lt y) = decide (x.t < y.t) := by
        congr 1; unfold Al.lt; simp [h1, h2]
      rw [e]
      clear e h1 h2
      go_enter Try.func30, Try.ntmps30
      go_wp2
      go_ret
      exact ⟨rfl, by go_grown⟩
    · have p2 : (x.a == y.a) = false := by simpa using h2
      have e : decide (x.lt y) = decide (x.a < y.a) := by
        congr 1; unfold Al.lt; simp [h1, h2]
      rw [e]
      clear e h1 h2
      go_enter Try.func30, Try.ntmps30
      go_wp2
      go_ret
      exact ⟨rfl, by go_grown⟩
  · have p1 : (x.n == y.n) = false := by simpa using h1
    have e : decide (x.lt y) = decide (x.n < y.n) := by
      congr 1; unfold Al.lt; simp [h1]
    rw [e]
    clear e h1
    go_enter Try.func30, Try.ntmps30
    go_wp2
    go_ret
    exact ⟨rfl, by go_grown⟩

set_option maxRecDepth 100000 in
set_option maxHeartbeats 4000000 in
theorem without_any (B : Nat) (l : List Al) (n t : Int) (w : World) (h : Rf w B l) (hl : l.length ≤ 1000) :
    Calls Try.prog 29 #[.pointer (some ⟨B, 0, none⟩), .int .i64 n, .int .i64 t] w fun e w' => ∃ v, e = .returned v ∧ Owns 40 w' w.heap.size v (wo l n t) ∧ Below w.heap.size w w' := by
  obtain ⟨i0, hi0, hz0, hz1, hz2⟩ := info_parts infoR
  have hBl := h.lt
  obtain ⟨s, hs, -, ho, -⟩ := h.open'
  have hsh : ∃ A cap, s = .slice A l.length cap := by
    rcases ho.form with ⟨rfl, rfl⟩ | ⟨g, cap, rfl, -⟩
    · exact ⟨none, 0, rfl⟩
    · exact ⟨_, cap, rfl⟩
  obtain ⟨A, cap, rfl⟩ := hsh
  have HS := Lib.hid hs
  have HO := Lib.hid ho
  clear h ho
  have hb1 : Below w.heap.size w (w.alloc (.cells #[] 40)) := (Below.refl _ _).alloc (Nat.le_refl _) _
  have B1 := Lib.hid hb1
  have O1 := Lib.hid (Owns.lit (e := 40) (w := w) (Nat.le_refl w.heap.size))
  clear hb1
  go_enter Try.func29, Try.ntmps29
  go_wp2
  clear hs
  go_loopw [7, 8] (fun u iv wr => ∃ k : Nat, k ≤ l.length ∧ iv = .int .i64 k ∧ Owns 40 wr w.heap.size u (wo (l.take k) n t) ∧ Below w.heap.size w wr) (fun _ iv _ => l.length - (intOf iv).toNat)
  case atStart => exact ⟨0, Nat.zero_le _, rfl, O1.out, B1.out⟩
  case round =>
    obtain ⟨k, hk, rfl, hown, hB⟩ := hrel
    have O2 := Lib.hid hown
    have B2 := Lib.hid hB
    have hzs : w.heap.size ≤ wr.heap.size := hB.size
    have c0 := (hB.cell (p := ⟨B, 0, none⟩) hBl).trans HS.out
    clear hown hB
    by_cases hlt : k < l.length
    · obtain ⟨m, hm⟩ : ∃ m, l[k]? = some m := ⟨_, List.getElem?_eq_getElem hlt⟩
      have hlI : (k : Int) < (l.length : Int) := by omega
      have hkI : (0 : Int) ≤ (k : Int) := by omega
      rcases (HO.out.below (B2.out)).form with ⟨-, rfl⟩ | ⟨g, cap', e1, hbg, hgl, -, -, hat⟩
      · simp at hlt
      cases e1
      obtain ⟨d0, d1, d2⟩ := hat k m hm
      clear hat
      have hle := filter_take_le l (fun x => !decide (x.is n t)) k
      have hle' : (wo (l.take k) n t).length ≤ 1000 := Nat.le_trans hle hl
      clear hle
      have HM := Lib.hid hm
      by_cases hi : m.is n t
      · have e2 := filter_take_no l (fun x => !decide (x.is n t)) k m hm (by simpa using hi)
        have K := Lib.hid (show Owns _ wr w.heap.size _ (wo (l.take (k + 1)) n t) from by have := O2.out; unfold wo at this ⊢; rw [e2]; exact this)
        obtain ⟨i1, i2⟩ := hi
        subst i1 i2
        clear hm e2
        go_wp2
        go_roundw
        case rel => exact ⟨k + 1, by omega, by go_num, K.out, B2.out⟩
        case measure => simp [intOf]; omega
      · have e2 := filter_take_yes l (fun x => !decide (x.is n t)) k m hm (by simpa using hi)
        have E2 := Lib.hid (show wo (l.take (k + 1)) n t = wo (l.take k) n t ++ [m] from e2)
        have hor : (m.n == n) = false ∨ (m.n = n ∧ (m.t == t) = false) := by
          by_cases hq : m.n = n
          · exact .inr ⟨hq, by simpa using fun hq2 => hi ⟨hq, hq2⟩⟩
          · exact .inl (by simpa using hq)
        have HN := Lib.hid (news1 wr m 40)
        have hba : Below wr.heap.size wr (wr.alloc (.cells m.cells 40)) := (Below.refl _ _).alloc (Nat.le_refl _) _
        have O3 := Lib.hid (O2.out.below hba)
        have B3 := Lib.hid (B2.out.trans (hba.mono hzs))
        clear hm e2 hi hba
        rcases hor with p1 | ⟨rfl, p2⟩
        all_goals
          go_wp2_with (at_builtin; refine wpList_append_lies _ rfl (.tmp 41) (.tmp 49) 26 rfl w.heap.size 40 i0 _ 3 24 Try.underlying26 hi0 hz0 hz1 hz2 rfl (by decide) _ _ _ rfl O3.out ⟨wr.heap.size, 0, none⟩ 1 1 (flat [m]) rfl (by simp [flat]) HN.out (flat_oneCell _) (by decide) (by unfold maxLen; omega) (by omega) (by simp; omega) (wr.heap.size + 1) (by simp) ?_; intro g3 cap3 w3 hown3 hgrow3 _ _; (have K1 := Lib.hid (Owns.snoc hown3)); (have K2 := Lib.hid (below_grown B3.out hgrow3 (by simp; omega) (fun k hk => (O3.out.lt hk).1))); clear hown3 hgrow3)
          go_roundw
          case rel => exact ⟨k + 1, by omega, by go_num, by rw [E2.out]; simpa using K1.out, K2.out⟩
          case measure => simp [intOf]; omega
    · have hlI : ¬ ((k : Int) < (l.length : Int)) := by omega
      obtain rfl : k = l.length := by omega
      have K := Lib.hid (show Owns _ wr w.heap.size _ (wo l n t) from by have := O2.out; rwa [List.take_length] at this)
      clear O2
      go_wp2
      go_ret
      exact ⟨_, rfl, K.out, B2.out⟩
end Go.Proofs.Ytcanagecdniiiaa
