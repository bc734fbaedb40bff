/-
  A shelf as cells, with its plate; what turns of memory while one of them is called; its little functions.
-/
import Derived.Test.YtacdbfaoeioflaaGreatDoorMap
import Derived.Test.YtacdbfaoeioflaaGreatDoorWrite
namespace Go.Proofs.YtacdbfaoeioflaaGreatDoor
open Go.RowKit

/-- The cells of a shelf. -/
def sf (pb mb : Nat) (vb : Value) (lost : Bool) (o : Nat) : Value :=
  if o = 0 then .pointer (some ⟨pb, 0, none⟩) else if o = 1 then .map (some mb) else if o = 2 then vb else .bool lost
/-- A shelf in block sb, its map in block mb, the bad sectors in vb. -/
structure Sb (w : World) (sb mb pb : Nat) (vb : Value) (L : Lay) (odd : List Nat) (lost : Bool) : Prop where
  row : w.rowIs sb 79 4 (sf pb mb vb lost)
  tm : Tm w mb L
  bad : w.ownsRow 0 3 1 vb odd.length (odd.map fun i : Nat => Value.int .i64 (i : Int))
/-- Its blocks. -/
def Ow (sb mb : Nat) (vb : Value) (k : Nat) : Prop := k = sb ∨ k = mb ∨ vb.ownBlock = some k
section
variable {w w' : World} {sb mb pb : Nat} {vb : Value} {L : Lay} {odd : List Nat} {lost : Bool}
theorem Sb.cells (h : Sb w sb mb pb vb L odd lost) : w.cell? ⟨sb, 0, none⟩ = some (.pointer (some ⟨pb, 0, none⟩)) ∧ w.cell? ⟨sb, 1, none⟩ = some (.map (some mb)) ∧ w.cell? ⟨sb, 2, none⟩ = some vb ∧ w.cell? ⟨sb, 3, none⟩ = some (.bool lost) :=
  ⟨h.row.cell (by omega), h.row.cell (by omega), h.row.cell (by omega), h.row.cell (by omega)⟩
theorem Sb.ne (h : Sb w sb mb pb vb L odd lost) : mb ≠ sb := h.tm.ne_cells h.cells.1
theorem Sb.ne_bad (h : Sb w sb mb pb vb L odd lost) : vb.ownBlock ≠ some sb := owns_ne h.bad h.row (by decide)
theorem Sb.ne_bad_map (h : Sb w sb mb pb vb L odd lost) : vb.ownBlock ≠ some mb := fun e => by
  obtain ⟨cur, hc⟩ := owns_type h.bad e
  obtain ⟨D, ⟨es, clock, hb, _⟩, _⟩ := h.tm
  rw [hb] at hc; cases hc
theorem Sb.lt (h : Sb w sb mb pb vb L odd lost) : ∀ k, Ow sb mb vb k → k < w.heap.size := fun k hk => by
  rcases hk with rfl | rfl | hk
  · exact h.row.lt
  · exact h.tm.lt
  · exact owns_lt h.bad hk
theorem Sb.kept (h : Sb w sb mb pb vb L odd lost) (hb : ∀ k, Ow sb mb vb k → w'.heap[k]? = w.heap[k]?) : Sb w' sb mb pb vb L odd lost :=
  ⟨h.row.of_block (hb sb (.inl rfl)), h.tm.of_block (hb mb (.inr (.inl rfl))), owns_kept h.bad fun g hg => hb g (.inr (.inr hg))⟩
theorem Sb.below (h : Sb w sb mb pb vb L odd lost) (hb : Below w.heap.size w w') : Sb w' sb mb pb vb L odd lost := h.kept fun k hk => hb.block k (h.lt k hk)
end

/-- A shelf in block sb and its plate in block pb; F: the blocks that they have. -/
def SF (w : World) (sb mb pb : Nat) (s : St) (L : Lay) (odd : List Nat) (lost : Bool) (F : Nat → Prop) : Prop :=
  ∃ Fp vb, PB w pb s Fp ∧ Sb w sb mb pb vb L odd lost ∧ (∀ k, Fp k → ¬ Ow sb mb vb k) ∧ ∀ k, F k ↔ (Fp k ∨ Ow sb mb vb k)
section
variable {w w' : World} {sb mb pb : Nat} {s : St} {L : Lay} {odd : List Nat} {lost : Bool} {F G : Nat → Prop}
theorem SF.lt (h : SF w sb mb pb s L odd lost F) : ∀ k, F k → k < w.heap.size := fun k hk => by
  obtain ⟨Fp, vb, h1, h2, h3, h4⟩ := h
  rcases (h4 k).1 hk with hk | hk
  · exact h1.lt k hk
  · exact h2.lt k hk
theorem SF.keeps (h : SF w sb mb pb s L odd lost F) (hk : Keeps G w w') (hd : ∀ k, F k → ¬ G k) : SF w' sb mb pb s L odd lost F := by
  obtain ⟨Fp, vb, h1, h2, h3, h4⟩ := h
  exact ⟨Fp, vb, h1.keeps hk fun k hf => hd k ((h4 k).2 (.inl hf)), h2.kept fun k ho => hk.block k (h2.lt k ho) (hd k ((h4 k).2 (.inr ho))), h3, h4⟩
theorem SF.below (h : SF w sb mb pb s L odd lost F) (hb : Below w.heap.size w w') : SF w' sb mb pb s L odd lost F := h.keeps (Keeps.of_below (F := fun _ => False) hb) (fun _ _ h => h)
theorem SF.cells (h : SF w sb mb pb s L odd lost F) : w.cell? ⟨sb, 0, none⟩ = some (.pointer (some ⟨pb, 0, none⟩)) ∧ w.cell? ⟨sb, 1, none⟩ = some (.map (some mb)) ∧ w.cell? ⟨sb, 3, none⟩ = some (.bool lost) := by
  obtain ⟨Fp, vb, h1, h2, h3, h4⟩ := h
  obtain ⟨c0, c1, -, c3⟩ := h2.cells
  exact ⟨c0, c1, c3⟩
theorem SF.tm (h : SF w sb mb pb s L odd lost F) : Tm w mb L := by obtain ⟨Fp, vb, h1, h2, h3, h4⟩ := h; exact h2.tm
theorem SF.good (h : SF w sb mb pb s L odd lost F) : GoodL L := h.tm.good
/-- The plate in it. -/
theorem SF.pl (h : SF w sb mb pb s L odd lost F) : ∃ Fp, PB w pb s Fp ∧ ∀ w' s', Goes Fp w w' (PB w' pb s') → Goes F w w' (SF w' sb mb pb s' L odd lost) := by
  obtain ⟨Fp, vb, h1, h2, h3, h4⟩ := h
  refine ⟨Fp, h1, fun w' s' ⟨Fp', k1, k2, k3⟩ => ⟨fun k => Fp' k ∨ Ow sb mb vb k, ⟨Fp', vb, k1, h2.kept fun k ho => k3.block k (h2.lt k ho) (fun hf => h3 k hf ho), fun k hf ho => ?_, fun k => Iff.rfl⟩, fun k hk => ?_, ?_⟩⟩
  · rcases k2 k hf with h | h
    · exact h3 k h ho
    · have := h2.lt k ho; omega
  · rcases hk with hk | hk
    · rcases k2 k hk with h | h
      · exact .inl ((h4 k).2 (.inl h))
      · exact .inr h
    · exact .inl ((h4 k).2 (.inr hk))
  · exact ⟨k3.os, k3.tape, k3.output, k3.size, fun k hk hn => k3.block k hk fun hf => hn ((h4 k).2 (.inl hf))⟩
/-- The shelf's own blocks turn. -/
theorem SF.own (h : SF w sb mb pb s L odd lost F) : ∃ vb, Sb w sb mb pb vb L odd lost ∧ ∀ w' vb' L' odd' lost', Sb w' sb mb pb vb' L' odd' lost' → Keeps (Ow sb mb vb) w w' → (∀ k, vb'.ownBlock = some k → vb.ownBlock = some k ∨ w.heap.size ≤ k) → Goes F w w' (SF w' sb mb pb s L' odd' lost') := by
  obtain ⟨Fp, vb, h1, h2, h3, h4⟩ := h
  refine ⟨vb, h2, fun w' vb' L' odd' lost' k1 k2 k3 => ?_⟩
  have hO : ∀ k, Ow sb mb vb' k → Ow sb mb vb k ∨ w.heap.size ≤ k := fun k hk => by
    rcases hk with h | h | h
    · exact .inl (.inl h)
    · exact .inl (.inr (.inl h))
    · rcases k3 k h with h | h
      · exact .inl (.inr (.inr h))
      · exact .inr h
  refine ⟨fun k => Fp k ∨ Ow sb mb vb' k, ⟨Fp, vb', h1.keeps k2 h3, k1, fun k hf ho => ?_, fun k => Iff.rfl⟩, fun k hk => ?_, ?_⟩
  · rcases hO k ho with h | h
    · exact h3 k hf h
    · have := h1.lt k hf; omega
  · rcases hk with hk | hk
    · exact .inl ((h4 k).2 (.inl hk))
    · rcases hO k hk with h | h
      · exact .inl ((h4 k).2 (.inr h))
      · exact .inr h
  · exact ⟨k2.os, k2.tape, k2.output, k2.size, fun k hk hn => k2.block k hk fun hf => hn ((h4 k).2 (.inr hf))⟩
end
/-- What a call leaves: from w to w' the shelf and its plate have turned, and new blocks. -/
def Sg (F : Nat → Prop) (w w' : World) (sb mb pb : Nat) (s : St) (L : Lay) (odd : List Nat) (lost : Bool) : Prop := Goes F w w' (SF w' sb mb pb s L odd lost)
section
variable {F : Nat → Prop} {w w1 w2 : World} {sb mb pb : Nat} {s : St} {L : Lay} {odd : List Nat} {lost : Bool}
theorem Sg.start (h : SF w sb mb pb s L odd lost F) : Sg F w w sb mb pb s L odd lost := Goes.same h (Keeps.refl F w)
theorem Sg.go (h : Sg F w w1 sb mb pb s L odd lost) : ∃ F1, SF w1 sb mb pb s L odd lost F1 ∧ ∀ w2 s2 L2 odd2 lost2, Goes F1 w1 w2 (SF w2 sb mb pb s2 L2 odd2 lost2) → Sg F w w2 sb mb pb s2 L2 odd2 lost2 := by
  obtain ⟨F1, h1, h2, h3⟩ := h
  exact ⟨F1, h1, fun w2 s2 L2 odd2 lost2 k => Goes.trans h2 h3 k⟩
theorem Sg.below (h : Sg F w w1 sb mb pb s L odd lost) (hb : Below w1.heap.size w1 w2) : Sg F w w2 sb mb pb s L odd lost := by
  obtain ⟨F1, h1, h2, h3⟩ := h
  exact ⟨F1, h1.below hb, h2, h3.then_below hb⟩
theorem Sg.cells (h : Sg F w w1 sb mb pb s L odd lost) : w1.cell? ⟨sb, 0, none⟩ = some (.pointer (some ⟨pb, 0, none⟩)) ∧ w1.cell? ⟨sb, 1, none⟩ = some (.map (some mb)) ∧ w1.cell? ⟨sb, 3, none⟩ = some (.bool lost) := by
  obtain ⟨F1, h1, h2, h3⟩ := h; exact h1.cells
theorem Sg.tm (h : Sg F w w1 sb mb pb s L odd lost) : Tm w1 mb L := by obtain ⟨F1, h1, h2, h3⟩ := h; exact h1.tm
/-- A block that isn't theirs stays. -/
theorem Sg.ab (h : Sg F w w1 sb mb pb s L odd lost) {z : Nat} {x : Bk} (hz : AB w z x) (hF : ¬ F z) : AB w1 z x := by
  obtain ⟨F1, h1, h2, h3⟩ := h
  unfold AB; rw [h3.block z hz.lt hF]; exact hz
theorem Sg.tab (h : Sg F w w1 sb mb pb s L odd lost) (hT : Tab w) (hF : ¬ F 0) : Tab w1 := by
  obtain ⟨F1, h1, h2, h3⟩ := h
  exact fun i hi => (h3.cell (hT i hi) hF)
end

section
variable {w : World} {sb mb pb : Nat} {s : St} {L : Lay} {odd : List Nat} {lost : Bool} {F : Nat → Prop}
theorem sdead_any (h : SF w sb mb pb s L odd lost F) (hl : lost = true → s.gone = true) :
    Calls Tryz.prog 59 #[.pointer (some ⟨sb, 0, none⟩)] w fun e w' => e = .returned (.bool s.gone) ∧ w = w' := by
  obtain ⟨c0, -, c3⟩ := h.cells
  obtain ⟨Fp, hP, -⟩ := h.pl
  have HD := Lib.hid (dead_any pb s Fp w hP)
  cases lost
  · generalize s.gone = g at HD
    go_enter Tryz.func59, Tryz.ntmps59
    go_wp2_with fail
    go_at_call 39
    refine HD.out.mono ?_
    rintro e w' ⟨rfl, rfl⟩
    go_wp2
    go_ret
    exact ⟨rfl, rfl⟩
  · rw [hl rfl]
    go_enter Tryz.func59, Tryz.ntmps59
    go_wp2
    go_ret
    exact ⟨rfl, rfl⟩
end

/-- The place x is all that block b has. -/
def PAB (w : World) (b : Nat) (x : Plc) : Prop := w.heap[b]? = some (.cells x.cells 86 (0, 0))
theorem PAB.fresh (w : World) (x : Plc) : PAB (w.alloc (.cells x.cells 86)) w.heap.size x := heap_alloc_new w _
theorem PAB.lt {w : World} {b : Nat} {x : Plc} (h : PAB w b x) : b < w.heap.size := (Array.getElem?_eq_some_iff.1 h).1
theorem PAB.below {w w' : World} {b : Nat} {x : Plc} (h : PAB w b x) (hb : Below w.heap.size w w') : PAB w' b x := by
  unfold PAB; rw [hb.block b h.lt]; exact h
theorem PAB.cell {w : World} {b : Nat} {x : Plc} (h : PAB w b x) (i : Nat) : w.cell? ⟨b, i, none⟩ = x.cells[i]? := by
  unfold World.cell?; simp only [show w.heap[b]? = _ from h]; rfl
theorem PAB.all {w : World} {b : Nat} {x : Plc} (h : PAB w b x) : w.cell? ⟨b, 0, none⟩ = some (.int .i64 x.b.id) ∧ w.cell? ⟨b, 1, none⟩ = some (.int .i64 x.b.ver) ∧ w.cell? ⟨b, 2, none⟩ = some (.string x.b.data) ∧ w.cell? ⟨b, 3, none⟩ = some (.int .i64 x.i) := ⟨h.cell 0, h.cell 1, h.cell 2, h.cell 3⟩

section
variable {w : World} {sb mb pb : Nat} {s : St} {L : Lay} {odd : List Nat} {lost : Bool} {F : Nat → Prop}
/-- What Get answers. -/
def getB (L : Lay) (id : Int) : Bk := (getL L id).getD Bk.zero
def getE (L : Lay) (id : Int) : Int := if (getL L id).isSome then 0 else 3
set_option maxRecDepth 100000 in
set_option maxHeartbeats 2000000 in
theorem get_any (h : SF w sb mb pb s L odd lost F) {id : Int} (hid : i64 id) :
    Calls Tryz.prog 27 #[.pointer (some ⟨sb, 0, none⟩), .int .i64 id] w fun e w' => e = .returned (.tuple #[(getB L id).val, .int .i64 (getE L id)]) ∧ Below w.heap.size w w' := by
  have hb0 : Below w.heap.size w (w.alloc (.cells #[.int .i64 0, .int .i64 0, .string ⟨#[]⟩] 37)) := (Below.refl _ _).alloc (Nat.le_refl _) _
  have hR : AB (w.alloc (.cells #[.int .i64 0, .int .i64 0, .string ⟨#[]⟩] 37)) w.heap.size Bk.zero := AB.fresh w Bk.zero
  have h1 := h.below hb0
  obtain ⟨-, c1, -⟩ := h1.cells
  have lk := h1.tm.look hid
  have hG := h.good
  have hb1 : Below w.heap.size w ((w.alloc (.cells #[.int .i64 0, .int .i64 0, .string ⟨#[]⟩] 37)).alloc (.cells (placeL L id).cells 86)) := hb0.alloc hb0.size _
  have R1 := Lib.hid (hR.below (((Below.refl _ _).alloc (Nat.le_refl _) (.cells (placeL L id).cells 86))))
  have P1 := Lib.hid (PAB.fresh (w.alloc (.cells #[.int .i64 0, .int .i64 0, .string ⟨#[]⟩] 37)) (placeL L id))
  have B1 := Lib.hid hb1
  clear h h1 hb0 hb1 hR
  rw [show (w.alloc (.cells #[.int .i64 0, .int .i64 0, .string ⟨#[]⟩] 37)).heap.size = w.heap.size + 1 by simp] at P1
  unfold getB getE
  cases hg : getL L id with
  | none =>
    rw [hg] at lk
    simp only [Option.getD_none, Option.isSome_none, Bool.false_eq_true, if_false] at lk ⊢
    clear P1
    generalize placeL L id = p at lk R1 B1
    go_enter Tryz.func27, Tryz.ntmps27
    go_wp2_with ((with_reducible show wpList _ _ _ (Oper.mk none (Op.store _ (.tmp 4) _) _ _ _ _ :: _) _ _); refine wpList_store_bk rfl (.tmp 4) (.tmp 19) rfl w.heap.size Bk.zero Bk.zero rfl rfl R1.out ?_; intro wF k1 k2; obtain ⟨d0, d1, d2⟩ := k1.all; have BF := Lib.hid (B1.out.trans k2); clear k1 k2)
    exact bodyPost_ret (v := .tuple #[Bk.zero.val, .int .i64 3]) (by simp [results, Tryz.results27, go_sem, d0, d1, d2]) rfl ⟨rfl, BF.out⟩
  | some b =>
    obtain ⟨⟨i, hi⟩, rfl⟩ := getL_some hg
    rw [place_at hG hi] at lk R1 P1 B1
    rw [hg] at lk
    simp only [Option.getD_some, Option.isSome_some, if_true] at lk ⊢
    obtain ⟨e0, e1, e2, -⟩ := P1.out.all
    go_enter Tryz.func27, Tryz.ntmps27
    go_wp2_with ((with_reducible show wpList _ _ _ (Oper.mk none (Op.store _ (.tmp 4) _) _ _ _ _ :: _) _ _); refine wpList_store_bk rfl (.tmp 4) (.tmp 21) rfl w.heap.size b Bk.zero rfl rfl R1.out ?_; intro wF k1 k2; obtain ⟨d0, d1, d2⟩ := k1.all; have BF := Lib.hid (B1.out.trans k2); clear k1 k2)
    exact bodyPost_ret (v := .tuple #[b.val, .int .i64 0]) (by simp [results, Tryz.results27, go_sem, d0, d1, d2]) rfl ⟨rfl, BF.out⟩
end
end Go.Proofs.YtacdbfaoeioflaaGreatDoor
