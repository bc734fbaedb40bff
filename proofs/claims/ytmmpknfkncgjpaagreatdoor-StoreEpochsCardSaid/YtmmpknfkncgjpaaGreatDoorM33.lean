/-
  The document's own shelf (weirkeepref09) as cells, with its plate; at, Get, by contracts.

  That a block is put (the laws' own 'shown'), by a contract; a shelf alone beside blocks of one's own.
-/
import Derived.Test.YtmmpknfkncgjpaaGreatDoorM31
import Derived.Test.YtmmpknfkncgjpaaGreatDoorM07
import Derived.Test.YtmmpknfkncgjpaaGreatDoorM23
import Derived.Test.YtmmpknfkncgjpaaGreatDoorM24
namespace Go.Proofs.YtmmpknfkncgjpaaGreatDoor
open Go.RowKit

/-- The block that lies in the sector i, or none's zero value. -/
def bkA (L : Lay) (i : Nat) : Bk := (L[i]?.join).getD Bk.zero
theorem bkA_at {L : Lay} {i : Nat} {b : Bk} (h : At L i b) : bkA L i = b := by unfold At at h; unfold bkA; rw [h]; rfl
theorem bkA_free {L : Lay} {i : Nat} (h : Fre L i) : bkA L i = Bk.zero := by unfold Fre at h; unfold bkA; rw [h]; rfl
/-- The cells of its list. -/
def lc (L : Lay) (q : Nat) : Value := if q % 3 = 0 then .int .i64 (bkA L (q / 3)).id else if q % 3 = 1 then .int .i64 (bkA L (q / 3)).ver else .string (bkA L (q / 3)).data
theorem lc0 (L : Lay) (i : Nat) : lc L (i * 3) = .int .i64 (bkA L i).id := by
  unfold lc; rw [if_pos (by omega), show i * 3 / 3 = i by omega]
theorem lc1 (L : Lay) (i : Nat) : lc L (i * 3 + 1) = .int .i64 (bkA L i).ver := by
  unfold lc; rw [if_neg (by omega), if_pos (by omega), show (i * 3 + 1) / 3 = i by omega]
theorem lc2 (L : Lay) (i : Nat) : lc L (i * 3 + 2) = .string (bkA L i).data := by
  unfold lc; rw [if_neg (by omega), if_neg (by omega), show (i * 3 + 2) / 3 = i by omega]
theorem bkA_set {L : Lay} {i : Nat} (hi : i < L.length) (o : Option Bk) (j : Nat) : bkA (L.set i o) j = if j = i then o.getD Bk.zero else bkA L j := by
  unfold bkA
  rw [List.getElem?_set]
  by_cases e : i = j
  · subst e; rw [if_pos rfl, if_pos hi, if_pos rfl]; rfl
  · rw [if_neg e, if_neg (fun h => e h.symm)]
theorem lc_set {L : Lay} {i : Nat} (hi : i < L.length) {o : Option Bk} {b : Bk} (hb : o.getD Bk.zero = b) (q : Nat) :
    (if q = i * 3 + 2 then Value.string b.data else if q = i * 3 + 1 then .int .i64 b.ver else if q = i * 3 then .int .i64 b.id else lc L q) = lc (L.set i o) q := by
  unfold lc
  rw [bkA_set hi, hb]
  by_cases e : q / 3 = i
  · rw [if_pos e]
    by_cases h2 : q = i * 3 + 2
    · rw [if_pos h2, if_neg (by omega), if_neg (by omega)]
    · rw [if_neg h2]
      by_cases h1 : q = i * 3 + 1
      · rw [if_pos h1, if_neg (by omega), if_pos (by omega)]
      · rw [if_neg h1, if_pos (by omega), if_pos (by omega)]
  · rw [if_neg e, if_neg (by omega), if_neg (by omega), if_neg (by omega)]

/-- Its own cells. -/
def rsf (rp g n : Nat) (vo : Value) (lost : Bool) (o : Nat) : Value :=
  if o = 0 then .pointer (some ⟨rp, 0, none⟩) else if o = 1 then .slice (some ⟨g, 0, none⟩) n n else if o = 2 then vo else .bool lost
/-- The document's own shelf in block rb, its list in block g, the bad sectors in vo. -/
structure Rb9 (w : World) (rb g rp : Nat) (vo : Value) (L : Lay) (odd : List Nat) (lost : Bool) : Prop where
  row : w.rowIs rb 89 4 (rsf rp g L.length vo lost)
  lay : w.rowIs g 34 (L.length * 3) (lc L)
  bad : w.ownsRow 0 3 1 vo odd.length (odd.map fun i : Nat => Value.int .i64 (i : Int))
  good : GoodL L
/-- Its blocks. -/
def Or9 (rb g : Nat) (vo : Value) (k : Nat) : Prop := k = rb ∨ k = g ∨ vo.ownBlock = some k
theorem rows_ne {w : World} {b g t t' n n' : Nat} {f f' : Nat → Value} (h : w.rowIs b t n f) (h' : w.rowIs g t' n' f') (ht : t ≠ t') : b ≠ g := fun e => by
  subst e
  obtain ⟨c, hb, _, _⟩ := h
  obtain ⟨c', hb', _, _⟩ := h'
  rw [hb] at hb'
  simp at hb'
  exact ht hb'.2
section
variable {w w' : World} {rb g rp : Nat} {vo : Value} {L : Lay} {odd : List Nat} {lost : Bool}
theorem Rb9.ne (h : Rb9 w rb g rp vo L odd lost) : rb ≠ g := rows_ne h.row h.lay (by decide)
theorem Rb9.ne_bad (h : Rb9 w rb g rp vo L odd lost) : vo.ownBlock ≠ some rb := owns_ne h.bad h.row (by decide)
theorem Rb9.ne_bad_lay (h : Rb9 w rb g rp vo L odd lost) : vo.ownBlock ≠ some g := owns_ne h.bad h.lay (by decide)
theorem Rb9.cells (h : Rb9 w rb g rp vo L odd lost) : w.cell? ⟨rb, 0, none⟩ = some (.pointer (some ⟨rp, 0, none⟩)) ∧ w.cell? ⟨rb, 1, none⟩ = some (.slice (some ⟨g, 0, none⟩) L.length L.length) ∧ w.cell? ⟨rb, 2, none⟩ = some vo ∧ w.cell? ⟨rb, 3, none⟩ = some (.bool lost) :=
  ⟨h.row.cell (by omega), h.row.cell (by omega), h.row.cell (by omega), h.row.cell (by omega)⟩
theorem Rb9.sec (h : Rb9 w rb g rp vo L odd lost) {i : Nat} (hi : i < L.length) : w.cell? ⟨g, i * 3, none⟩ = some (.int .i64 (bkA L i).id) ∧ w.cell? ⟨g, i * 3 + 1, none⟩ = some (.int .i64 (bkA L i).ver) ∧ w.cell? ⟨g, i * 3 + 2, none⟩ = some (.string (bkA L i).data) :=
  ⟨by rw [h.lay.cell (by omega), lc0], by rw [h.lay.cell (by omega), lc1], by rw [h.lay.cell (by omega), lc2]⟩
theorem Rb9.lt (h : Rb9 w rb g rp vo L odd lost) : ∀ k, Or9 rb g vo k → k < w.heap.size := fun k hk => by
  rcases hk with rfl | rfl | hk
  · exact h.row.lt
  · exact h.lay.lt
  · exact owns_lt h.bad hk
theorem Rb9.kept (h : Rb9 w rb g rp vo L odd lost) (hb : ∀ k, Or9 rb g vo k → w'.heap[k]? = w.heap[k]?) : Rb9 w' rb g rp vo L odd lost :=
  ⟨h.row.of_block (hb rb (.inl rfl)), h.lay.of_block (hb g (.inr (.inl rfl))), owns_kept h.bad fun q hq => hb q (.inr (.inr hq)), h.good⟩
theorem Rb9.below (h : Rb9 w rb g rp vo L odd lost) (hb : Below w.heap.size w w') : Rb9 w' rb g rp vo L odd lost := h.kept fun k hk => hb.block k (h.lt k hk)
/-- A Put or Drop has failed. -/
theorem Rb9.setLost (h : Rb9 w rb g rp vo L odd lost) : Rb9 (w.setCell ⟨rb, 3, none⟩ (.bool true)) rb g rp vo L odd true := by
  have hB : ∀ k, k ≠ rb → (w.setCell ⟨rb, 3, none⟩ (.bool true)).heap[k]? = w.heap[k]? := fun k hk => Below.heap_setCell _ _ _ _ hk
  refine ⟨(h.row.set 3 (.bool true)).congr fun o ho => ?_, h.lay.of_block (hB _ (Ne.symm h.ne)), owns_kept h.bad fun q hq => hB q (fun e => h.ne_bad (by rw [hq, e])), h.good⟩
  unfold rsf
  by_cases e : o = 3
  · subst e; simp
  · rw [if_neg e]
    have : o = 0 ∨ o = 1 ∨ o = 2 := by omega
    rcases this with rfl | rfl | rfl <;> simp
/-- One block of its list is stored. -/
theorem Rb9.setSec (h : Rb9 w rb g rp vo L odd lost) {i : Nat} (hi : i < L.length) {o : Option Bk} {b : Bk} (hb : o.getD Bk.zero = b) (hG : GoodL (L.set i o)) :
    Rb9 (((w.setCell ⟨g, i * 3, none⟩ (.int .i64 b.id)).setCell ⟨g, i * 3 + 1, none⟩ (.int .i64 b.ver)).setCell ⟨g, i * 3 + 2, none⟩ (.string b.data)) rb g rp vo (L.set i o) odd lost := by
  have hB : ∀ k, k ≠ g → (((w.setCell ⟨g, i * 3, none⟩ (.int .i64 b.id)).setCell ⟨g, i * 3 + 1, none⟩ (.int .i64 b.ver)).setCell ⟨g, i * 3 + 2, none⟩ (.string b.data)).heap[k]? = w.heap[k]? := fun k hk =>
    ((Below.heap_setCell _ _ _ _ hk).trans (Below.heap_setCell _ _ _ _ hk)).trans (Below.heap_setCell _ _ _ _ hk)
  refine ⟨by rw [List.length_set]; exact h.row.of_block (hB _ h.ne), ?_, owns_kept h.bad fun q hq => hB q (fun e => h.ne_bad_lay (by rw [hq, e])), hG⟩
  rw [List.length_set]
  exact (((h.lay.set (i * 3) _).set (i * 3 + 1) _).set (i * 3 + 2) _).congr fun q _ => lc_set hi hb q
end

/-- The document's own shelf in block rb and its plate in block rp; F: the blocks that they have. -/
def RSF (w : World) (rb rp : Nat) (s : St) (L : Lay) (odd : List Nat) (lost : Bool) (F : Nat → Prop) : Prop :=
  ∃ Fp vo g, RB w rp s Fp ∧ Rb9 w rb g rp vo L odd lost ∧ (∀ k, Fp k → ¬ Or9 rb g vo k) ∧ ∀ k, F k ↔ (Fp k ∨ Or9 rb g vo k)
section
variable {w w' : World} {rb rp : Nat} {s : St} {L : Lay} {odd : List Nat} {lost : Bool} {F G : Nat → Prop}
theorem RSF.lt (h : RSF w rb rp s L odd lost F) : ∀ k, F k → k < w.heap.size := fun k hk => by
  obtain ⟨Fp, vo, g, h1, h2, h3, h4⟩ := h
  rcases (h4 k).1 hk with hk | hk
  · exact h1.lt k hk
  · exact h2.lt k hk
theorem RSF.keeps (h : RSF w rb rp s L odd lost F) (hk : Keeps G w w') (hd : ∀ k, F k → ¬ G k) : RSF w' rb rp s L odd lost F := by
  obtain ⟨Fp, vo, g, h1, h2, h3, h4⟩ := h
  exact ⟨Fp, vo, g, h1.keeps hk fun k hf => hd k ((h4 k).2 (.inl hf)), h2.kept fun k ho => hk.block k (h2.lt k ho) (hd k ((h4 k).2 (.inr ho))), h3, h4⟩
theorem RSF.below (h : RSF w rb rp s L odd lost F) (hb : Below w.heap.size w w') : RSF w' rb rp s L odd lost F := h.keeps (Keeps.of_below (F := fun _ => False) hb) (fun _ _ h => h)
theorem RSF.good (h : RSF w rb rp s L odd lost F) : GoodL L := by obtain ⟨Fp, vo, g, h1, h2, h3, h4⟩ := h; exact h2.good
/-- The plate in it. -/
theorem RSF.pl (h : RSF w rb rp s L odd lost F) : ∃ Fp, RB w rp s Fp ∧ ∀ w' s', Goes Fp w w' (RB w' rp s') → Goes F w w' (RSF w' rb rp s' L odd lost) := by
  obtain ⟨Fp, vo, g, h1, h2, h3, h4⟩ := h
  refine ⟨Fp, h1, fun w' s' ⟨Fp', k1, k2, k3⟩ => ⟨fun k => Fp' k ∨ Or9 rb g vo k, ⟨Fp', vo, g, k1, h2.kept fun k ho => k3.block k (h2.lt k ho) (fun hf => h3 k hf ho), fun k hf ho => ?_, fun k => Iff.rfl⟩, fun k hk => ?_, ?_⟩⟩
  · rcases k2 k hf with h | h
    · exact h3 k h ho
    · have := h2.lt k ho; omega
  · rcases hk with hk | hk
    · rcases k2 k hk with h | h
      · exact .inl ((h4 k).2 (.inl h))
      · exact .inr h
    · exact .inl ((h4 k).2 (.inr hk))
  · exact ⟨k3.os, k3.tape, k3.output, k3.size, fun k hk hn => k3.block k hk fun hf => hn ((h4 k).2 (.inl hf))⟩
/-- Its own blocks turn. -/
theorem RSF.own (h : RSF w rb rp s L odd lost F) : ∃ vo g, Rb9 w rb g rp vo L odd lost ∧ ∀ w' vo' g' L' odd' lost', Rb9 w' rb g' rp vo' L' odd' lost' → Keeps (Or9 rb g vo) w w' → (g' = g ∨ w.heap.size ≤ g') → (∀ k, vo'.ownBlock = some k → vo.ownBlock = some k ∨ w.heap.size ≤ k) → Goes F w w' (RSF w' rb rp s L' odd' lost') := by
  obtain ⟨Fp, vo, g, h1, h2, h3, h4⟩ := h
  refine ⟨vo, g, h2, fun w' vo' g' L' odd' lost' k1 k2 kg k3 => ?_⟩
  have hO : ∀ k, Or9 rb g' vo' k → Or9 rb g vo k ∨ w.heap.size ≤ k := fun k hk => by
    rcases hk with h | h | h
    · exact .inl (.inl h)
    · rcases kg with e | e
      · exact .inl (.inr (.inl (h.trans e)))
      · right; omega
    · rcases k3 k h with h | h
      · exact .inl (.inr (.inr h))
      · exact .inr h
  refine ⟨fun k => Fp k ∨ Or9 rb g' vo' k, ⟨Fp, vo', g', h1.keeps k2 h3, k1, fun k hf ho => ?_, fun k => Iff.rfl⟩, fun k hk => ?_, ?_⟩
  · rcases hO k ho with h | h
    · exact h3 k hf h
    · have := h1.lt k hf; omega
  · rcases hk with hk | hk
    · exact .inl ((h4 k).2 (.inl hk))
    · rcases hO k hk with h | h
      · exact .inl ((h4 k).2 (.inr h))
      · exact .inr h
  · exact ⟨k2.os, k2.tape, k2.output, k2.size, fun k hk hn => k2.block k hk fun hf => hn ((h4 k).2 (.inr hf))⟩
end
/-- What a call leaves. -/
def RSg (F : Nat → Prop) (w w' : World) (rb rp : Nat) (s : St) (L : Lay) (odd : List Nat) (lost : Bool) : Prop := Goes F w w' (RSF w' rb rp s L odd lost)
section
variable {F : Nat → Prop} {w w1 w2 : World} {rb rp : Nat} {s : St} {L : Lay} {odd : List Nat} {lost : Bool}
theorem RSg.start (h : RSF w rb rp s L odd lost F) : RSg F w w rb rp s L odd lost := Goes.same h (Keeps.refl F w)
theorem RSg.go (h : RSg F w w1 rb rp s L odd lost) : ∃ F1, RSF w1 rb rp s L odd lost F1 ∧ ∀ w2 s2 L2 odd2 lost2, Goes F1 w1 w2 (RSF w2 rb rp s2 L2 odd2 lost2) → RSg F w w2 rb rp s2 L2 odd2 lost2 := by
  obtain ⟨F1, h1, h2, h3⟩ := h
  exact ⟨F1, h1, fun w2 s2 L2 odd2 lost2 k => Goes.trans h2 h3 k⟩
theorem RSg.below (h : RSg F w w1 rb rp s L odd lost) (hb : Below w1.heap.size w1 w2) : RSg F w w2 rb rp s L odd lost := by
  obtain ⟨F1, h1, h2, h3⟩ := h
  exact ⟨F1, h1.below hb, h2, h3.then_below hb⟩
theorem RSg.ahead {w0 : World} (hb : Below w.heap.size w w0) (h : RSg F w0 w1 rb rp s L odd lost) : RSg F w w1 rb rp s L odd lost := by
  exact Goes.trans (F1 := F) (fun _ h => .inl h) (Keeps.of_below hb) h
/-- A block that isn't theirs stays. -/
theorem RSg.ab (h : RSg F w w1 rb rp s L odd lost) {z : Nat} {x : Bk} (hz : AB w z x) (hF : ¬ F z) : AB w1 z x := by
  obtain ⟨F1, h1, h2, h3⟩ := h
  unfold AB; rw [h3.block z hz.lt hF]; exact hz
end

/-! ### at -/
def atI (L : Lay) (id : Int) : Int := match atL L id with
  | some k => (k : Int)
  | none => -1
theorem atI_none {L : Lay} {id : Int} (h : ∀ j b, At L j b → b.id ≠ id) : atI L id = -1 := by unfold atI; rw [atL_of_none h]
theorem atI_some {L : Lay} (hG : GoodL L) {k : Nat} {b : Bk} (h : At L k b) : atI L b.id = (k : Int) := by unfold atI; rw [atL_of hG h]
theorem at_cases {L : Lay} (hG : GoodL L) (id : Int) : (atI L id = -1 ∧ getL L id = none) ∨ ∃ (k : Nat) (b : Bk), atI L id = (k : Int) ∧ At L k b ∧ b.id = id ∧ getL L id = some b := by
  cases h : getL L id with
  | none => exact .inl ⟨atI_none (getL_none h), rfl⟩
  | some b =>
    obtain ⟨⟨k, hk⟩, e⟩ := getL_some h
    exact .inr ⟨k, b, by rw [← e]; exact atI_some hG hk, hk, e, rfl⟩
set_option maxRecDepth 100000 in
theorem rat_row {w : World} {rb g rp : Nat} {vo : Value} {L : Lay} {odd : List Nat} {lost : Bool} (h : Rb9 w rb g rp vo L odd lost) (id : Int) :
    Calls Tryz.prog 42 #[.pointer (some ⟨rb, 0, none⟩), .int .i64 id] w fun e w' => e = .returned (.int .i64 (atI L id)) ∧ w = w' := by
  obtain ⟨-, c1, -, -⟩ := h.cells
  have hG := Lib.hid h.good
  have HS := Lib.hid (fun i (hi : i < L.length) => h.sec hi)
  have hlo := h.good.hi
  obtain ⟨n, hn⟩ : ∃ n, L.length = n := ⟨_, rfl⟩
  rw [hn] at c1 hlo
  have HN := Lib.hid hn
  obtain ⟨r, hr⟩ : ∃ r, atI L id = r := ⟨_, rfl⟩
  rw [hr]
  have HR := Lib.hid hr
  clear h hr hn
  go_enter Tryz.func42, Tryz.ntmps42
  go_wp2
  go_loop [5] (fun iv => ∃ i : Nat, i ≤ n ∧ iv = .int .i64 i ∧ ∀ j b, j < i → At L j b → b.id ≠ id) (fun iv => n - (RowKit.intOf iv).toNat)
  case atStart => exact ⟨0, Nat.zero_le _, rfl, fun j b hj => by omega⟩
  case round =>
    obtain ⟨i, hi, rfl, hno⟩ := hrel
    have HNo := Lib.hid hno
    clear hno
    by_cases hlt : i < n
    · have hlI : (i : Int) < (n : Int) := by omega
      have hiI : (0 : Int) ≤ (i : Int) := by omega
      obtain ⟨s0, s1, -⟩ := HS.out i (by rw [HN.out]; exact hlt)
      have hil : i < L.length := by rw [HN.out]; exact hlt
      cases hx : L[i] with
      | some b =>
        have hat : At L i b := by unfold At; rw [List.getElem?_eq_getElem hil, hx]
        rw [bkA_at hat] at s0 s1
        have hv : 0 < b.ver := by have := (refE_zero.1 (hG.out.ok i b hat)).1; unfold argOk at this; omega
        by_cases e : b.id = id
        · have h2 : r = (i : Int) := by rw [← HR.out, ← e]; exact atI_some hG.out hat
          subst h2
          have ht : (b.id == id) = true := by simp [e]
          clear hat hx e
          go_wp2
          go_ret
          exact ⟨rfl, rfl⟩
        · have ht : (b.id == id) = false := by simp [e]
          have HNx := Lib.hid (show ∀ j c, j < i + 1 → At L j c → c.id ≠ id from fun j c hj hc => by
            by_cases ej : j = i
            · subst ej; rw [hc.fn hat]; exact e
            · exact HNo.out j c (by omega) hc)
          clear hat hx e
          go_wp2
          go_round
          case rel => exact ⟨i + 1, by omega, by go_num, HNx.out⟩
          case measure => simp [RowKit.intOf]; omega
      | none =>
        have hat : Fre L i := by unfold Fre; rw [List.getElem?_eq_getElem hil, hx]
        rw [bkA_free hat] at s0 s1
        rw [show Bk.zero.ver = 0 from rfl] at s1
        have HNx := Lib.hid (show ∀ j c, j < i + 1 → At L j c → c.id ≠ id from fun j c hj hc => by
          by_cases ej : j = i
          · subst ej; exact (hat.not hc).elim
          · exact HNo.out j c (by omega) hc)
        clear hat hx
        go_wp2
        go_round
        case rel => exact ⟨i + 1, by omega, by go_num, HNx.out⟩
        case measure => simp [RowKit.intOf]; omega
    · obtain rfl : i = n := by omega
      have hlI : ¬ ((i : Int) < (i : Int)) := by omega
      obtain rfl : r = -1 := by rw [← HR.out]; exact atI_none fun j b hb => HNo.out j b (by rw [← HN.out]; exact hb.lt) hb
      go_wp2
      go_ret
      exact ⟨rfl, rfl⟩

/-! ### Get -/
set_option maxRecDepth 100000 in
set_option maxHeartbeats 2000000 in
theorem rget_row {w : World} {rb g rp : Nat} {vo : Value} {L : Lay} {odd : List Nat} {lost : Bool} (h : Rb9 w rb g rp vo L odd lost) (id : Int) :
    Calls Tryz.prog 69 #[.pointer (some ⟨rb, 0, none⟩), .int .i64 id] w fun e w' => e = .returned (.tuple #[(getB L id).val, .int .i64 (getE L id)]) ∧ Below w.heap.size w w' := by
  have hb0 : Below w.heap.size w (w.alloc (.cells Bk.zero.cells 34)) := (Below.refl _ _).alloc (Nat.le_refl _) _
  have R1 := Lib.hid (AB.fresh w Bk.zero)
  have B1 := Lib.hid hb0
  have h1 := h.below hb0
  have HA := Lib.hid (rat_row h1 id)
  obtain ⟨-, c1, -, -⟩ := h1.cells
  have hG := h.good
  have HS := Lib.hid (fun i (hi : i < L.length) => h1.sec hi)
  clear h h1 hb0
  unfold getB getE
  rcases at_cases hG id with ⟨e1, e2⟩ | ⟨k, b, e1, e2, e3, e4⟩
  · rw [e1] at HA
    rw [e2]
    simp only [Option.getD_none, Option.isSome_none, Bool.false_eq_true, if_false]
    clear e1 e2 hG c1
    go_enter Tryz.func69, Tryz.ntmps69
    go_wp2_with (first
      | (go_at_call 42; refine HA.out.mono ?_; rintro e w' ⟨rfl, rfl⟩)
      | ((with_reducible show wpList _ _ _ (Oper.mk none (Op.store _ (.tmp 4) _) _ _ _ _ :: _) _ _); refine wpList_store_bk rfl (.tmp 4) (.tmp 12) rfl w.heap.size Bk.zero Bk.zero rfl rfl R1.out ?_; intro wF k1 k2; obtain ⟨d0, d1, d2⟩ := k1.all; have BF := Lib.hid (B1.out.trans k2); clear k1 k2))
    exact bodyPost_ret (v := .tuple #[Bk.zero.val, .int .i64 3]) (by simp [results, Tryz.results69, go_sem, d0, d1, d2]) rfl ⟨rfl, BF.out⟩
  · rw [e1] at HA
    rw [e4]
    simp only [Option.getD_some, Option.isSome_some, if_true]
    have hk := e2.lt
    obtain ⟨s0, s1, s2⟩ := HS.out k hk
    rw [bkA_at e2] at s0 s1 s2
    have hkI : (k : Int) < (L.length : Int) := by omega
    have hk0 : (0 : Int) ≤ (k : Int) := by omega
    have hlo := hG.hi
    generalize L.length = n at c1 hkI hlo
    clear e1 e2 e3 e4 hG hk HS
    go_enter Tryz.func69, Tryz.ntmps69
    go_wp2_with (first
      | (go_at_call 42; refine HA.out.mono ?_; rintro e w' ⟨rfl, rfl⟩)
      | ((with_reducible show wpList _ _ _ (Oper.mk none (Op.store _ (.tmp 4) _) _ _ _ _ :: _) _ _); refine wpList_store_bk rfl (.tmp 4) (.tmp 19) rfl w.heap.size b Bk.zero rfl rfl R1.out ?_; intro wF k1 k2; obtain ⟨d0, d1, d2⟩ := k1.all; have BF := Lib.hid (B1.out.trans k2); clear k1 k2))
    exact bodyPost_ret (v := .tuple #[b.val, .int .i64 0]) (by simp [results, Tryz.results69, go_sem, d0, d1, d2]) rfl ⟨rfl, BF.out⟩
end Go.Proofs.YtmmpknfkncgjpaaGreatDoor

namespace Go.Proofs.YtmmpknfkncgjpaaGreatDoor
open Go.RowKit

/-- The block of 'shown'. -/
def b3 : Bk := ⟨3, 1, ⟨#[120]⟩⟩
theorem b3_ok : refE b3 1 = 0 := by decide +kernel
theorem b3_pre (n : Int) : preE (List.replicate (size0 n) none) false b3 = 0 := by
  have hz := (size0_in n).1
  unfold preE newer
  rw [b3_ok, replicate_get]
  have hl : low (List.replicate (size0 n) none) = 0 := by
    unfold low
    rw [show List.replicate (size0 n) (none : Option Bk) = none :: List.replicate (size0 n - 1) none by rw [← List.replicate_succ]; congr 1; omega]
    rfl
  rw [hl, List.length_replicate]
  simp; omega

/-- A shelf and its plate, made since w0, beside the blocks O; all that lay in w0 lies as it did. -/
def Solo (w0 w : World) (sb mb pb : Nat) (s : St) (L : Lay) (odd : List Nat) (lost : Bool) (O : Nat → Prop) : Prop :=
  ∃ F, SF w sb mb pb s L odd lost F ∧ (∀ k, F k → w0.heap.size ≤ k) ∧ Below w0.heap.size w0 w ∧ ∀ k, O k → ¬ F k ∧ k < w.heap.size
/-- A plate alone. -/
def PlO (w0 w : World) (pb : Nat) (s : St) (O : Nat → Prop) : Prop := ∃ F, PB w pb s F ∧ (∀ k, F k → w0.heap.size ≤ k) ∧ Below w0.heap.size w0 w ∧ ∀ k, O k → ¬ F k ∧ k < w.heap.size
/-- The blocks O are as they were. -/
def Kept (O : Nat → Prop) (w w' : World) : Prop := ∀ k, O k → w'.heap[k]? = w.heap[k]?
theorem Kept.refl (O : Nat → Prop) (w : World) : Kept O w w := fun _ _ => rfl
theorem Kept.trans {O : Nat → Prop} {w w1 w2 : World} (h : Kept O w w1) (k : Kept O w1 w2) : Kept O w w2 := fun q hq => (k q hq).trans (h q hq)
section
variable {w0 w : World} {sb mb pb : Nat} {s : St} {L : Lay} {odd : List Nat} {lost : Bool} {O : Nat → Prop}
theorem Solo.bel (h : Solo w0 w sb mb pb s L odd lost O) : Below w0.heap.size w0 w := by obtain ⟨F, h1, h2, h3, h4⟩ := h; exact h3
theorem Solo.tab (h : Solo w0 w sb mb pb s L odd lost O) (hT : Tab w0) : Tab w := hT.below h.bel
theorem Solo.go (h : Solo w0 w sb mb pb s L odd lost O) (hT : Tab w0) : ∃ F, SF w sb mb pb s L odd lost F ∧ ¬ F 1 ∧ ∀ w' sb' mb' s' L' odd' lost', Goes F w w' (SF w' sb' mb' pb s' L' odd' lost') → Solo w0 w' sb' mb' pb s' L' odd' lost' O ∧ Kept O w w' := by
  obtain ⟨F, h1, h2, h3, h4⟩ := h
  have hh : (1 : Nat) < w0.heap.size := World.block_lt_of_cell? w0 _ (hT 0 (by decide))
  refine ⟨F, h1, fun e => by have := h2 _ e; omega, fun w' sb' mb' s' L' odd' lost' ⟨F', k1, k2, k3⟩ => ⟨⟨F', k1, fun k hk => ?_, k3.below h3 h3.size h2, fun k hk => ⟨fun hf => ?_, Nat.lt_of_lt_of_le (h4 k hk).2 k3.size⟩⟩, fun k hk => k3.block k (h4 k hk).2 (h4 k hk).1⟩⟩
  · rcases k2 k hk with h | h
    · exact h2 k h
    · exact Nat.le_trans h3.size h
  · rcases k2 k hf with h | h
    · exact (h4 k hk).1 h
    · have := (h4 k hk).2; omega
theorem Solo.below {w' : World} (h : Solo w0 w sb mb pb s L odd lost O) (hb : Below w.heap.size w w') : Solo w0 w' sb mb pb s L odd lost O ∧ Kept O w w' := by
  obtain ⟨F, h1, h2, h3, h4⟩ := h
  exact ⟨⟨F, h1.below hb, h2, h3.trans (hb.mono h3.size), fun k hk => ⟨(h4 k hk).1, Nat.lt_of_lt_of_le (h4 k hk).2 hb.size⟩⟩, fun k hk => hb.block k (h4 k hk).2⟩
/-- One's own blocks turn, and new ones. -/
theorem Solo.turn {w' : World} {O' : Nat → Prop} (h : Solo w0 w sb mb pb s L odd lost O) (hk : Keeps O w w') (h0 : ∀ k, O k → w0.heap.size ≤ k) (hO : ∀ k, O' k → O k ∨ w.heap.size ≤ k) (hlt : ∀ k, O' k → k < w'.heap.size) : Solo w0 w' sb mb pb s L odd lost O' := by
  obtain ⟨F, h1, h2, h3, h4⟩ := h
  refine ⟨F, h1.keeps hk (fun k hf ho => (h4 k ho).1 hf), h2, hk.below h3 h3.size h0, fun k hk' => ⟨fun hf => ?_, hlt k hk'⟩⟩
  rcases hO k hk' with h | h
  · exact (h4 k h).1 hf
  · have := h1.lt k hf; omega
/-- The plate of a shelf that is given up. -/
theorem Solo.plate (h : Solo w0 w sb mb pb s L odd lost O) : PlO w0 w pb s O := by
  obtain ⟨F, h1, h2, h3, h4⟩ := h
  obtain ⟨Fp, vb, k1, k2, k3, k5⟩ := h1
  exact ⟨Fp, k1, fun k hk => h2 k ((k5 k).2 (.inl hk)), h3, fun k hk => ⟨fun hf => (h4 k hk).1 ((k5 k).2 (.inl hf)), (h4 k hk).2⟩⟩
theorem PlO.bel (h : PlO w0 w pb s O) : Below w0.heap.size w0 w := by obtain ⟨F, h1, h2, h3, h4⟩ := h; exact h3
theorem PlO.below {w' : World} (h : PlO w0 w pb s O) (hb : Below w.heap.size w w') : PlO w0 w' pb s O ∧ Kept O w w' := by
  obtain ⟨F, h1, h2, h3, h4⟩ := h
  exact ⟨⟨F, h1.below hb, h2, h3.trans (hb.mono h3.size), fun k hk => ⟨(h4 k hk).1, Nat.lt_of_lt_of_le (h4 k hk).2 hb.size⟩⟩, fun k hk => hb.block k (h4 k hk).2⟩
theorem PlO.go (h : PlO w0 w pb s O) : ∃ F, PB w pb s F ∧ ∀ w' s', Goes F w w' (PB w' pb s') → PlO w0 w' pb s' O ∧ Kept O w w' := by
  obtain ⟨F, h1, h2, h3, h4⟩ := h
  refine ⟨F, h1, fun w' s' ⟨F', k1, k2, k3⟩ => ⟨⟨F', k1, fun k hk => ?_, k3.below h3 h3.size h2, fun k hk => ⟨fun hf => ?_, Nat.lt_of_lt_of_le (h4 k hk).2 k3.size⟩⟩, fun k hk => k3.block k (h4 k hk).2 (h4 k hk).1⟩⟩
  · rcases k2 k hk with h | h
    · exact h2 k h
    · exact Nat.le_trans h3.size h
  · rcases k2 k hf with h | h
    · exact (h4 k hk).1 h
    · have := (h4 k hk).2; omega
/-- A plate that is opened. -/
theorem plo_open (h : PlO w0 w pb s O) (hT : Tab w0) (hG : Good s) (hgo : s.gone = false) {n : Nat} (hn : s.is.length = n) :
    Calls Tryz.prog 65 #[.pointer (some ⟨pb, 0, none⟩)] w fun e w' => ∃ sb mb : Nat, e = .returned (.tuple #[.pointer (some ⟨sb, 0, none⟩), .int .i64 0]) ∧ Solo w0 w' sb mb pb s (scan (readB s) n n) (odds (readB s) n) false O ∧ Kept O w w' := by
  obtain ⟨F, h1, h2, h3, h4⟩ := h
  have hh : (1 : Nat) < w0.heap.size := World.block_lt_of_cell? w0 _ (hT 0 (by decide))
  refine (open_yes9 h1 hG hgo hn (hT.below h3) (fun e => by have := h2 _ e; omega)).mono ?_
  rintro e w' ⟨sb, mb, he, F', k1, k2, k3⟩
  refine ⟨sb, mb, he, ⟨F', k1, fun k hk => ?_, k3.below h3 h3.size h2, fun k hk => ⟨fun hf => ?_, Nat.lt_of_lt_of_le (h4 k hk).2 k3.size⟩⟩, fun k hk => k3.block k (h4 k hk).2 (h4 k hk).1⟩
  · rcases k2 k hk with h | h
    · exact h2 k h
    · exact Nat.le_trans h3.size h
  · rcases k2 k hf with h | h
    · exact (h4 k hk).1 h
    · have := (h4 k hk).2; omega
theorem plo_new (hb : Below w0.heap.size w0 w) (n : Int) (hO : ∀ k, O k → k < w.heap.size) :
    Calls Tryz.prog 28 #[.int .i64 n] w fun e w' => ∃ pb : Nat, e = .returned (.pointer (some ⟨pb, 0, none⟩)) ∧ PlO w0 w' pb (fresh n) O ∧ Kept O w w' := by
  refine (new_any n w).mono ?_
  rintro e w' ⟨he, F, h1, h2, h3⟩
  refine ⟨_, he, ⟨F, h1, fun k hk => ?_, h3.below hb hb.size (fun _ h => h.elim), fun k hk => ⟨fun hf => ?_, Nat.lt_of_lt_of_le (hO k hk) h3.size⟩⟩, fun k hk => h3.block k (hO k hk) (fun h => h)⟩
  · rcases h2 k hk with h | h
    · exact h.elim
    · exact Nat.le_trans hb.size h
  · rcases h2 k hf with h | h
    · exact h
    · have := hO k hk; omega
theorem so_put (h : Solo w0 w sb mb pb s L odd lost O) (hT : Tab w0) {n k : Nat} (hR : Rest s n k) (hk : k ≤ 900000) (hlost : lost = true → s.gone = true) (hL : L.length = n) {b : Bk} (hid : i64 b.id) :
    Calls Tryz.prog 72 #[.pointer (some ⟨sb, 0, none⟩), b.val] w fun e w' => e = .returned (.int .i64 (putE L s b)) ∧ Solo w0 w' sb mb pb (putS L s b) (putY L s b) odd (lostP lost (putE L s b)) O ∧ Kept O w w' := by
  obtain ⟨F, h1, h2, h3⟩ := h.go hT
  exact (sput_any h1 (h.tab hT) h2 hR hk hlost hL hid).mono fun e w' ⟨he, hg⟩ => ⟨he, h3 _ _ _ _ _ _ _ hg⟩
theorem so_get (h : Solo w0 w sb mb pb s L odd lost O) {id : Int} (hid : i64 id) :
    Calls Tryz.prog 64 #[.pointer (some ⟨sb, 0, none⟩), .int .i64 id] w fun e w' => e = .returned (.tuple #[(getB L id).val, .int .i64 (getE L id)]) ∧ Below w.heap.size w w' := by
  obtain ⟨F, h1, h2, h3, h4⟩ := h
  exact get_any h1 hid
end

theorem b3_sound : Sound (fresh 4) (List.replicate 4 none) 4 0 := by have := Sound.fresh 4; exact this
theorem b3_put : putE (List.replicate 4 none) (fresh 4) b3 = 0 ∧ getL (putY (List.replicate 4 none) (fresh 4) b3) 3 = some b3 := by
  have h := (b3_sound.live.put (L := List.replicate 4 none) (by simp [fresh, size0]) b3).1
  have h0 : putE (List.replicate 4 none) (fresh 4) b3 = 0 := h.trans (b3_pre 4)
  exact ⟨h0, by rw [put_get b3_sound.fit.good h0, if_pos (by rfl)]⟩
end Go.Proofs.YtmmpknfkncgjpaaGreatDoor
