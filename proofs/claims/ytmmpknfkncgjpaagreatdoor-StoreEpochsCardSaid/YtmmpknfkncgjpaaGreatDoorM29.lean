/-
  A shelf as cells, with its plate; what turns of memory while one of them is called; its little functions.

  isNew, Free, sectors (package shelf), by contracts.

  sectors, lowest (package shelf), slices.Index at bools, by contracts.
-/
import Derived.Test.YtmmpknfkncgjpaaGreatDoorM26
import Derived.Test.YtmmpknfkncgjpaaGreatDoorM04
import Derived.Test.YtmmpknfkncgjpaaGreatDoorM05
namespace Go.Proofs.YtmmpknfkncgjpaaGreatDoor
open Go.RowKit

/-- The cells of a shelf. -/
def sf (pb mb : Nat) (vb : Value) (lost : Bool) (o : Nat) : Value :=
  if o = 0 then .pointer (some ⟨pb, 0, none⟩) else if o = 1 then .map (some mb) else if o = 2 then vb else .bool lost
/-- A shelf in block sb, its map in block mb, the bad sectors in vb. -/
structure Sb (w : World) (sb mb pb : Nat) (vb : Value) (L : Lay) (odd : List Nat) (lost : Bool) : Prop where
  row : w.rowIs sb 146 4 (sf pb mb vb lost)
  tm : Tm w mb L
  bad : w.ownsRow 0 3 1 vb odd.length (odd.map fun i : Nat => Value.int .i64 (i : Int))
/-- Its blocks. -/
def Ow (sb mb : Nat) (vb : Value) (k : Nat) : Prop := k = sb ∨ k = mb ∨ vb.ownBlock = some k
section
variable {w w' : World} {sb mb pb : Nat} {vb : Value} {L : Lay} {odd : List Nat} {lost : Bool}
theorem Sb.cells (h : Sb w sb mb pb vb L odd lost) : w.cell? ⟨sb, 0, none⟩ = some (.pointer (some ⟨pb, 0, none⟩)) ∧ w.cell? ⟨sb, 1, none⟩ = some (.map (some mb)) ∧ w.cell? ⟨sb, 2, none⟩ = some vb ∧ w.cell? ⟨sb, 3, none⟩ = some (.bool lost) :=
  ⟨h.row.cell (by omega), h.row.cell (by omega), h.row.cell (by omega), h.row.cell (by omega)⟩
theorem Sb.ne (h : Sb w sb mb pb vb L odd lost) : mb ≠ sb := h.tm.ne_cells h.cells.1
theorem Sb.ne_bad (h : Sb w sb mb pb vb L odd lost) : vb.ownBlock ≠ some sb := owns_ne h.bad h.row (by decide)
theorem Sb.ne_bad_map (h : Sb w sb mb pb vb L odd lost) : vb.ownBlock ≠ some mb := fun e => by
  obtain ⟨cur, hc⟩ := owns_type h.bad e
  obtain ⟨D, ⟨es, clock, hb, _⟩, _⟩ := h.tm
  rw [hb] at hc; cases hc
theorem Sb.lt (h : Sb w sb mb pb vb L odd lost) : ∀ k, Ow sb mb vb k → k < w.heap.size := fun k hk => by
  rcases hk with rfl | rfl | hk
  · exact h.row.lt
  · exact h.tm.lt
  · exact owns_lt h.bad hk
theorem Sb.kept (h : Sb w sb mb pb vb L odd lost) (hb : ∀ k, Ow sb mb vb k → w'.heap[k]? = w.heap[k]?) : Sb w' sb mb pb vb L odd lost :=
  ⟨h.row.of_block (hb sb (.inl rfl)), h.tm.of_block (hb mb (.inr (.inl rfl))), owns_kept h.bad fun g hg => hb g (.inr (.inr hg))⟩
theorem Sb.below (h : Sb w sb mb pb vb L odd lost) (hb : Below w.heap.size w w') : Sb w' sb mb pb vb L odd lost := h.kept fun k hk => hb.block k (h.lt k hk)
end

/-- A shelf in block sb and its plate in block pb; F: the blocks that they have. -/
def SF (w : World) (sb mb pb : Nat) (s : St) (L : Lay) (odd : List Nat) (lost : Bool) (F : Nat → Prop) : Prop :=
  ∃ Fp vb, PB w pb s Fp ∧ Sb w sb mb pb vb L odd lost ∧ (∀ k, Fp k → ¬ Ow sb mb vb k) ∧ ∀ k, F k ↔ (Fp k ∨ Ow sb mb vb k)
section
variable {w w' : World} {sb mb pb : Nat} {s : St} {L : Lay} {odd : List Nat} {lost : Bool} {F G : Nat → Prop}
theorem SF.lt (h : SF w sb mb pb s L odd lost F) : ∀ k, F k → k < w.heap.size := fun k hk => by
  obtain ⟨Fp, vb, h1, h2, h3, h4⟩ := h
  rcases (h4 k).1 hk with hk | hk
  · exact h1.lt k hk
  · exact h2.lt k hk
theorem SF.keeps (h : SF w sb mb pb s L odd lost F) (hk : Keeps G w w') (hd : ∀ k, F k → ¬ G k) : SF w' sb mb pb s L odd lost F := by
  obtain ⟨Fp, vb, h1, h2, h3, h4⟩ := h
  exact ⟨Fp, vb, h1.keeps hk fun k hf => hd k ((h4 k).2 (.inl hf)), h2.kept fun k ho => hk.block k (h2.lt k ho) (hd k ((h4 k).2 (.inr ho))), h3, h4⟩
theorem SF.below (h : SF w sb mb pb s L odd lost F) (hb : Below w.heap.size w w') : SF w' sb mb pb s L odd lost F := h.keeps (Keeps.of_below (F := fun _ => False) hb) (fun _ _ h => h)
theorem SF.cells (h : SF w sb mb pb s L odd lost F) : w.cell? ⟨sb, 0, none⟩ = some (.pointer (some ⟨pb, 0, none⟩)) ∧ w.cell? ⟨sb, 1, none⟩ = some (.map (some mb)) ∧ w.cell? ⟨sb, 3, none⟩ = some (.bool lost) := by
  obtain ⟨Fp, vb, h1, h2, h3, h4⟩ := h
  obtain ⟨c0, c1, -, c3⟩ := h2.cells
  exact ⟨c0, c1, c3⟩
theorem SF.tm (h : SF w sb mb pb s L odd lost F) : Tm w mb L := by obtain ⟨Fp, vb, h1, h2, h3, h4⟩ := h; exact h2.tm
theorem SF.good (h : SF w sb mb pb s L odd lost F) : GoodL L := h.tm.good
/-- The plate in it. -/
theorem SF.pl (h : SF w sb mb pb s L odd lost F) : ∃ Fp, PB w pb s Fp ∧ ∀ w' s', Goes Fp w w' (PB w' pb s') → Goes F w w' (SF w' sb mb pb s' L odd lost) := by
  obtain ⟨Fp, vb, h1, h2, h3, h4⟩ := h
  refine ⟨Fp, h1, fun w' s' ⟨Fp', k1, k2, k3⟩ => ⟨fun k => Fp' k ∨ Ow sb mb vb k, ⟨Fp', vb, k1, h2.kept fun k ho => k3.block k (h2.lt k ho) (fun hf => h3 k hf ho), fun k hf ho => ?_, fun k => Iff.rfl⟩, fun k hk => ?_, ?_⟩⟩
  · rcases k2 k hf with h | h
    · exact h3 k h ho
    · have := h2.lt k ho; omega
  · rcases hk with hk | hk
    · rcases k2 k hk with h | h
      · exact .inl ((h4 k).2 (.inl h))
      · exact .inr h
    · exact .inl ((h4 k).2 (.inr hk))
  · exact ⟨k3.os, k3.tape, k3.output, k3.size, fun k hk hn => k3.block k hk fun hf => hn ((h4 k).2 (.inl hf))⟩
/-- The shelf's own blocks turn. -/
theorem SF.own (h : SF w sb mb pb s L odd lost F) : ∃ vb, Sb w sb mb pb vb L odd lost ∧ ∀ w' vb' L' odd' lost', Sb w' sb mb pb vb' L' odd' lost' → Keeps (Ow sb mb vb) w w' → (∀ k, vb'.ownBlock = some k → vb.ownBlock = some k ∨ w.heap.size ≤ k) → Goes F w w' (SF w' sb mb pb s L' odd' lost') := by
  obtain ⟨Fp, vb, h1, h2, h3, h4⟩ := h
  refine ⟨vb, h2, fun w' vb' L' odd' lost' k1 k2 k3 => ?_⟩
  have hO : ∀ k, Ow sb mb vb' k → Ow sb mb vb k ∨ w.heap.size ≤ k := fun k hk => by
    rcases hk with h | h | h
    · exact .inl (.inl h)
    · exact .inl (.inr (.inl h))
    · rcases k3 k h with h | h
      · exact .inl (.inr (.inr h))
      · exact .inr h
  refine ⟨fun k => Fp k ∨ Ow sb mb vb' k, ⟨Fp, vb', h1.keeps k2 h3, k1, fun k hf ho => ?_, fun k => Iff.rfl⟩, fun k hk => ?_, ?_⟩
  · rcases hO k ho with h | h
    · exact h3 k hf h
    · have := h1.lt k hf; omega
  · rcases hk with hk | hk
    · exact .inl ((h4 k).2 (.inl hk))
    · rcases hO k hk with h | h
      · exact .inl ((h4 k).2 (.inr h))
      · exact .inr h
  · exact ⟨k2.os, k2.tape, k2.output, k2.size, fun k hk hn => k2.block k hk fun hf => hn ((h4 k).2 (.inr hf))⟩
end
/-- What a call leaves: from w to w' the shelf and its plate have turned, and new blocks. -/
def Sg (F : Nat → Prop) (w w' : World) (sb mb pb : Nat) (s : St) (L : Lay) (odd : List Nat) (lost : Bool) : Prop := Goes F w w' (SF w' sb mb pb s L odd lost)
section
variable {F : Nat → Prop} {w w1 w2 : World} {sb mb pb : Nat} {s : St} {L : Lay} {odd : List Nat} {lost : Bool}
theorem Sg.start (h : SF w sb mb pb s L odd lost F) : Sg F w w sb mb pb s L odd lost := Goes.same h (Keeps.refl F w)
theorem Sg.go (h : Sg F w w1 sb mb pb s L odd lost) : ∃ F1, SF w1 sb mb pb s L odd lost F1 ∧ ∀ w2 s2 L2 odd2 lost2, Goes F1 w1 w2 (SF w2 sb mb pb s2 L2 odd2 lost2) → Sg F w w2 sb mb pb s2 L2 odd2 lost2 := by
  obtain ⟨F1, h1, h2, h3⟩ := h
  exact ⟨F1, h1, fun w2 s2 L2 odd2 lost2 k => Goes.trans h2 h3 k⟩
theorem Sg.below (h : Sg F w w1 sb mb pb s L odd lost) (hb : Below w1.heap.size w1 w2) : Sg F w w2 sb mb pb s L odd lost := by
  obtain ⟨F1, h1, h2, h3⟩ := h
  exact ⟨F1, h1.below hb, h2, h3.then_below hb⟩
theorem Sg.cells (h : Sg F w w1 sb mb pb s L odd lost) : w1.cell? ⟨sb, 0, none⟩ = some (.pointer (some ⟨pb, 0, none⟩)) ∧ w1.cell? ⟨sb, 1, none⟩ = some (.map (some mb)) ∧ w1.cell? ⟨sb, 3, none⟩ = some (.bool lost) := by
  obtain ⟨F1, h1, h2, h3⟩ := h; exact h1.cells
theorem Sg.tm (h : Sg F w w1 sb mb pb s L odd lost) : Tm w1 mb L := by obtain ⟨F1, h1, h2, h3⟩ := h; exact h1.tm
/-- A block that isn't theirs stays. -/
theorem Sg.ab (h : Sg F w w1 sb mb pb s L odd lost) {z : Nat} {x : Bk} (hz : AB w z x) (hF : ¬ F z) : AB w1 z x := by
  obtain ⟨F1, h1, h2, h3⟩ := h
  unfold AB; rw [h3.block z hz.lt hF]; exact hz
theorem Sg.tab (h : Sg F w w1 sb mb pb s L odd lost) (hT : Tab w) (hF : ¬ F 1) : Tab w1 := by
  obtain ⟨F1, h1, h2, h3⟩ := h
  exact fun i hi => (h3.cell (hT i hi) hF)
end

section
variable {w : World} {sb mb pb : Nat} {s : St} {L : Lay} {odd : List Nat} {lost : Bool} {F : Nat → Prop}
theorem sdead_any (h : SF w sb mb pb s L odd lost F) (hl : lost = true → s.gone = true) :
    Calls Tryz.prog 108 #[.pointer (some ⟨sb, 0, none⟩)] w fun e w' => e = .returned (.bool s.gone) ∧ w = w' := by
  obtain ⟨c0, -, c3⟩ := h.cells
  obtain ⟨Fp, hP, -⟩ := h.pl
  have HD := Lib.hid (dead_any pb s Fp w hP)
  cases lost
  · generalize s.gone = g at HD
    go_enter Tryz.func108, Tryz.ntmps108
    go_wp2_with fail
    go_at_call 15
    refine HD.out.mono ?_
    rintro e w' ⟨rfl, rfl⟩
    go_wp2
    go_ret
    exact ⟨rfl, rfl⟩
  · rw [hl rfl]
    go_enter Tryz.func108, Tryz.ntmps108
    go_wp2
    go_ret
    exact ⟨rfl, rfl⟩
end

/-- The place x is all that block b has. -/
def PAB (w : World) (b : Nat) (x : Plc) : Prop := w.heap[b]? = some (.cells x.cells 144 (0, 0))
theorem PAB.fresh (w : World) (x : Plc) : PAB (w.alloc (.cells x.cells 144)) w.heap.size x := heap_alloc_new w _
theorem PAB.lt {w : World} {b : Nat} {x : Plc} (h : PAB w b x) : b < w.heap.size := (Array.getElem?_eq_some_iff.1 h).1
theorem PAB.below {w w' : World} {b : Nat} {x : Plc} (h : PAB w b x) (hb : Below w.heap.size w w') : PAB w' b x := by
  unfold PAB; rw [hb.block b h.lt]; exact h
theorem PAB.cell {w : World} {b : Nat} {x : Plc} (h : PAB w b x) (i : Nat) : w.cell? ⟨b, i, none⟩ = x.cells[i]? := by
  unfold World.cell?; simp only [show w.heap[b]? = _ from h]; rfl
theorem PAB.all {w : World} {b : Nat} {x : Plc} (h : PAB w b x) : w.cell? ⟨b, 0, none⟩ = some (.int .i64 x.b.id) ∧ w.cell? ⟨b, 1, none⟩ = some (.int .i64 x.b.ver) ∧ w.cell? ⟨b, 2, none⟩ = some (.string x.b.data) ∧ w.cell? ⟨b, 3, none⟩ = some (.int .i64 x.i) := ⟨h.cell 0, h.cell 1, h.cell 2, h.cell 3⟩

section
variable {w : World} {sb mb pb : Nat} {s : St} {L : Lay} {odd : List Nat} {lost : Bool} {F : Nat → Prop}
/-- What Get answers. -/
def getB (L : Lay) (id : Int) : Bk := (getL L id).getD Bk.zero
def getE (L : Lay) (id : Int) : Int := if (getL L id).isSome then 0 else 3
set_option maxRecDepth 100000 in
set_option maxHeartbeats 2000000 in
theorem get_any (h : SF w sb mb pb s L odd lost F) {id : Int} (hid : i64 id) :
    Calls Tryz.prog 64 #[.pointer (some ⟨sb, 0, none⟩), .int .i64 id] w fun e w' => e = .returned (.tuple #[(getB L id).val, .int .i64 (getE L id)]) ∧ Below w.heap.size w w' := by
  have hb0 : Below w.heap.size w (w.alloc (.cells #[.int .i64 0, .int .i64 0, .string ⟨#[]⟩] 34)) := (Below.refl _ _).alloc (Nat.le_refl _) _
  have hR : AB (w.alloc (.cells #[.int .i64 0, .int .i64 0, .string ⟨#[]⟩] 34)) w.heap.size Bk.zero := AB.fresh w Bk.zero
  have h1 := h.below hb0
  obtain ⟨-, c1, -⟩ := h1.cells
  have lk := h1.tm.look hid
  have hG := h.good
  have hb1 : Below w.heap.size w ((w.alloc (.cells #[.int .i64 0, .int .i64 0, .string ⟨#[]⟩] 34)).alloc (.cells (placeL L id).cells 144)) := hb0.alloc hb0.size _
  have R1 := Lib.hid (hR.below (((Below.refl _ _).alloc (Nat.le_refl _) (.cells (placeL L id).cells 144))))
  have P1 := Lib.hid (PAB.fresh (w.alloc (.cells #[.int .i64 0, .int .i64 0, .string ⟨#[]⟩] 34)) (placeL L id))
  have B1 := Lib.hid hb1
  clear h h1 hb0 hb1 hR
  rw [show (w.alloc (.cells #[.int .i64 0, .int .i64 0, .string ⟨#[]⟩] 34)).heap.size = w.heap.size + 1 by simp] at P1
  unfold getB getE
  cases hg : getL L id with
  | none =>
    rw [hg] at lk
    simp only [Option.getD_none, Option.isSome_none, Bool.false_eq_true, if_false] at lk ⊢
    clear P1
    generalize placeL L id = p at lk R1 B1
    go_enter Tryz.func64, Tryz.ntmps64
    go_wp2_with ((with_reducible show wpList _ _ _ (Oper.mk none (Op.store _ (.tmp 4) _) _ _ _ _ :: _) _ _); refine wpList_store_bk rfl (.tmp 4) (.tmp 19) rfl w.heap.size Bk.zero Bk.zero rfl rfl R1.out ?_; intro wF k1 k2; obtain ⟨d0, d1, d2⟩ := k1.all; have BF := Lib.hid (B1.out.trans k2); clear k1 k2)
    exact bodyPost_ret (v := .tuple #[Bk.zero.val, .int .i64 3]) (by simp [results, Tryz.results64, go_sem, d0, d1, d2]) rfl ⟨rfl, BF.out⟩
  | some b =>
    obtain ⟨⟨i, hi⟩, rfl⟩ := getL_some hg
    rw [place_at hG hi] at lk R1 P1 B1
    rw [hg] at lk
    simp only [Option.getD_some, Option.isSome_some, if_true] at lk ⊢
    obtain ⟨e0, e1, e2, -⟩ := P1.out.all
    go_enter Tryz.func64, Tryz.ntmps64
    go_wp2_with ((with_reducible show wpList _ _ _ (Oper.mk none (Op.store _ (.tmp 4) _) _ _ _ _ :: _) _ _); refine wpList_store_bk rfl (.tmp 4) (.tmp 21) rfl w.heap.size b Bk.zero rfl rfl R1.out ?_; intro wF k1 k2; obtain ⟨d0, d1, d2⟩ := k1.all; have BF := Lib.hid (B1.out.trans k2); clear k1 k2)
    exact bodyPost_ret (v := .tuple #[b.val, .int .i64 0]) (by simp [results, Tryz.results64, go_sem, d0, d1, d2]) rfl ⟨rfl, BF.out⟩
end
end Go.Proofs.YtmmpknfkncgjpaaGreatDoor

namespace Go.Proofs.YtmmpknfkncgjpaaGreatDoor
open Go.RowKit

section
variable {w : World} {sb mb pb : Nat} {s : St} {L : Lay} {odd : List Nat} {lost : Bool} {F : Nat → Prop}
set_option maxRecDepth 100000 in
set_option maxHeartbeats 2000000 in
theorem isNew_any (h : SF w sb mb pb s L odd lost F) (b : Bk) (hid : i64 b.id) :
    Calls Tryz.prog 95 #[.pointer (some ⟨sb, 0, none⟩), b.val] w fun e w' => e = .returned (.bool (newer L b)) ∧ Below w.heap.size w w' := by
  have hb1 : Below w.heap.size w (w.alloc (.cells b.cells 34)).drew := ((Below.refl _ _).alloc (Nat.le_refl _) _).drew
  have h1 := h.below hb1
  obtain ⟨-, k0, -⟩ := h1.cells
  have k1 := h1.tm.look hid
  have hb2 : Below w.heap.size w ((w.alloc (.cells b.cells 34)).alloc (.cells #[.int .i64 0, .int .i64 0, .string ⟨#[]⟩, .int .i64 0] 144)).drew := (((Below.refl _ _).alloc (Nat.le_refl _) _).alloc (by simp) _).drew
  have h2 := h.below hb2
  have k2 := h2.tm.look hid
  obtain ⟨-, k3, -⟩ := h2.cells
  obtain ⟨-, k4, -⟩ := h.cells
  have hG := h.good
  unfold newer
  clear h h1 h2 hb1 hb2
  cases hg : getL L b.id with
  | none =>
    rw [hg] at k1 k2
    simp only [Option.isSome_none] at k1 k2 ⊢
    generalize placeL L b.id = y at k1 k2
    go_enter Tryz.func95, Tryz.ntmps95
    go_wp2_with fail
    go_region
    all_goals
      go_wp2
      go_ret
      exact ⟨rfl, by go_grown⟩
  | some c =>
    obtain ⟨⟨i, hi⟩, e⟩ := getL_some hg
    have e2 := place_at hG hi
    rw [e] at e2
    rw [hg, e2] at k1 k2
    simp only [Option.isSome_some] at k1 k2 ⊢
    clear e2
    go_enter Tryz.func95, Tryz.ntmps95
    go_wp2_with fail
    go_region
    all_goals
      go_wp2
      go_ret
      exact ⟨rfl, by go_grown⟩

set_option maxRecDepth 100000 in
theorem free_any (h : SF w sb mb pb s L odd lost F) (hl : s.is.length ≤ 128) :
    Calls Tryz.prog 132 #[.pointer (some ⟨sb, 0, none⟩)] w fun e w' => e = .returned (.int .i64 ((s.is.length : Int) - (cnt L : Int))) ∧ Below w.heap.size w w' := by
  have hc := cnt_le L
  have hG := h.good.hi
  have hw : IntKind.i64.wrap ((s.is.length : Int) - (cnt L : Int)) = (s.is.length : Int) - (cnt L : Int) := IntWalk.i64_in _ (by omega)
  obtain ⟨c0, c1, -⟩ := h.cells
  have hb : Below w.heap.size w w.drew := (Below.refl _ _).drew
  have D1 := Lib.hid (h.below hb)
  obtain ⟨c0', c1', -⟩ := D1.out.cells
  have hlen := fun ty => D1.out.tm.len ty
  obtain ⟨Fp, hP, -⟩ := D1.out.pl
  have HS := Lib.hid (size_any pb s Fp _ hP)
  clear hb hc hG hP
  go_enter Tryz.func132, Tryz.ntmps132
  go_wp2_with fail
  go_region_held3 (fun w' => w'.cell? ⟨sb, 0, none⟩ = some (.pointer (some ⟨pb, 0, none⟩)) ∧ w'.cell? ⟨sb, 1, none⟩ = some (.map (some mb)) ∧ ∀ ty, (Builtin.len_ #[142] ty #[.map (some mb)]).run Tryz.prog w' = .ok (.int .i64 (cnt L)) w')
    (first | exact ⟨D1.out.cells.1, D1.out.cells.2.1, D1.out.tm.len⟩ | fail)
    (first
      | (go_at_call 120; with_reducible refine HS.out.mono ?_; rintro e w' ⟨rfl, rfl⟩)
      | fail)
  go_wp2
  go_ret
  exact ⟨rfl, (Below.refl _ _).drew⟩
end
end Go.Proofs.YtmmpknfkncgjpaaGreatDoor

namespace Go.Proofs.YtmmpknfkncgjpaaGreatDoor
open Go.RowKit

theorem info_str9 : (Tryz.prog.info? 9).map (fun i => (i.zero, i.size, i.bytes)) = some (some (.string ⟨#[]⟩), 1, 16) := by kernel_rfl
/-- The first i sectors' bytes, in a row. -/
def secF (s : St) (i j : Nat) : Value := if j < i then .string (str (readB s j)) else .string ⟨#[]⟩
theorem secF_step (s : St) (i j : Nat) : (if j = i then Value.string (str (readB s i)) else secF s i j) = secF s (i + 1) j := by
  unfold secF
  by_cases e : j = i
  · subst e; rw [if_pos rfl, if_pos (by omega)]
  · rw [if_neg e]
    by_cases h : j < i
    · rw [if_pos h, if_pos (by omega)]
    · rw [if_neg h, if_neg (by omega)]
set_option maxRecDepth 100000 in
set_option maxHeartbeats 2000000 in
theorem sectors_any (pb n : Nat) (s : St) (F : Nat → Prop) (w : World) (h : PB w pb s F) (hg : Good s) (hgo : s.gone = false) (hn : s.is.length = n) :
    Calls Tryz.prog 92 #[.pointer (some ⟨pb, 0, none⟩)] w fun e w' => ∃ g, e = .returned (.slice (some ⟨g, 0, none⟩) n n) ∧ w.heap.size ≤ g ∧ w'.rowIs g 9 n (secF s n) ∧ Below w.heap.size w w' := by
  have hlo := hg.lo
  have hhi := hg.hi
  have HS := Lib.hid (size_any pb s F w h)
  rw [hn] at HS
  have hmk : (Instr.makeSlice 43 (.int .i64 (n : Int)) (.int .i64 (n : Int))).run Tryz.prog w = .ok (.slice (some ⟨w.heap.size, 0, none⟩) n n) (w.alloc (.cells (Go.madeCells #[.string ⟨#[]⟩] n) 9)) :=
    run_make_row' 43 9 _ 16 Tryz.underlying43 info_str9 rfl .i64 .i64 n (by omega) (by omega) w
  have hrow := World.rowIs_made w (.string ⟨#[]⟩) n 9
  have hb0 : Below w.heap.size w (w.alloc (.cells (Go.madeCells #[.string ⟨#[]⟩] n) 9)) := (Below.refl _ _).alloc (Nat.le_refl _) _
  have HF := Lib.hid h.lt
  have HP := Lib.hid (h.below hb0)
  have HR := Lib.hid hrow
  have HB := Lib.hid hb0
  have HG := Lib.hid hg
  have HW := Lib.hid (fun i (hi : i < n) => wrong_in hgo (i := i) (by rw [hn]; exact hi))
  clear h hrow hb0 hg hgo hlo
  generalize w.alloc (.cells (Go.madeCells #[.string ⟨#[]⟩] n) 9) = w0 at hmk HP HR HB
  go_enter Tryz.func92, Tryz.ntmps92
  go_wp2_with fail
  go_at_call 120
  refine HS.out.mono ?_
  rintro e w' ⟨rfl, rfl⟩
  go_wp2
  go_loopw [10] (fun iv wr => ∃ i : Nat, i ≤ n ∧ iv = .int .i64 i ∧ PB wr pb s F ∧ wr.rowIs w.heap.size 9 n (secF s i) ∧ Below w.heap.size w wr) (fun iv _ => n - (RowKit.intOf iv).toNat)
  case atStart => exact ⟨0, Nat.zero_le _, rfl, HP.out, HR.out.congr fun j hj => by unfold secF; rw [if_neg (by omega)], HB.out⟩
  case round =>
    obtain ⟨i, hi, rfl, hP, hR, hB⟩ := hrel
    by_cases hlt : i < n
    · have hlI : (i : Int) < (n : Int) := by omega
      have hiI : (0 : Int) ≤ (i : Int) := by omega
      have hrd := Lib.hid (read_any pb s F (i : Int) wr hP HG.out)
      have hw0 := HW.out i hlt
      have hrv : readV s (i : Int) = readB s i := by unfold readV; rw [hw0, if_neg (by omega), Int.toNat_natCast]
      rw [hrv, hw0] at hrd
      clear hrv hw0
      have hPl := hP
      have HP1 := Lib.hid hP
      have HR1 := Lib.hid hR
      have HB1 := Lib.hid hB
      clear hP hR hB hPl
      go_wp2_with fail
      go_at_call 121
      refine hrd.out.mono ?_
      rintro e w1 ⟨rfl, k2⟩
      have hR1 := HR1.out.of_block (k2.block _ HR1.out.lt)
      have c0 := hR1.cell hlt
      have f0 := hR1.frozen i
      have HP2 := Lib.hid ((HP1.out.below k2).keeps (Keeps.set (Keeps.refl (fun k => k = w.heap.size) w1) (b := w.heap.size) (o := i) (.inl rfl) (.string (str (readB s i)))) (fun k hk e => by subst e; exact absurd (HF.out _ hk) (Nat.lt_irrefl _)))
      have HR2 := Lib.hid ((hR1.set i (.string (str (readB s i)))).congr fun j _ => secF_step s i j)
      have HB2 := Lib.hid (((HB1.out.trans (k2.mono HB1.out.size))).setCell (p := ⟨w.heap.size, i, none⟩) (Nat.le_refl _) (.string (str (readB s i))))
      clear k2 hR1
      go_wp2
      go_roundw
      case rel => exact ⟨i + 1, by omega, by go_num, HP2.out, HR2.out, HB2.out⟩
      case measure => simp [RowKit.intOf]; omega
    · have hlI : ¬ ((i : Int) < (n : Int)) := by omega
      obtain rfl : i = n := by omega
      have HR1 := Lib.hid hR
      have HB1 := Lib.hid hB
      clear hP hR hB
      go_wp2
      go_ret
      exact ⟨_, rfl, Nat.le_refl _, HR1.out, HB1.out⟩

/-! ### slices.Index at bools -/
set_option maxRecDepth 100000 in
set_option maxHeartbeats 2000000 in
/-- Index of the first false one. -/
theorem index_any (g n : Nat) (f : Nat → Bool) (k : Nat) (w : World) (hn : n ≤ 1000) (hc : ∀ j, j < n → w.cell? ⟨g, j, none⟩ = some (.bool (f j))) (hk : k < n) (h0 : ∀ j, j < k → f j = true) (h1 : f k = false) :
    Calls Tryz.prog 133 #[.slice (some ⟨g, 0, none⟩) n n, .bool false] w fun e w' => e = .returned (.int .i64 (k : Int)) ∧ w = w' := by
  have HC := Lib.hid hc
  have H0 := Lib.hid h0
  clear hc h0
  go_enter Tryz.func133, Tryz.ntmps133
  go_wp2
  go_loop [8] (fun iv => ∃ i : Nat, i ≤ k ∧ iv = .int .i64 i) (fun iv => n - (RowKit.intOf iv).toNat)
  case atStart => exact ⟨0, Nat.zero_le _, rfl⟩
  case round =>
    obtain ⟨i, hi, rfl⟩ := hrel
    have hlI : (i : Int) < (n : Int) := by omega
    have hiI : (0 : Int) ≤ (i : Int) := by omega
    have c0 := HC.out i (by omega)
    by_cases hlt : i < k
    · rw [H0.out i hlt] at c0
      go_wp2
      go_round
      case rel => exact ⟨i + 1, by omega, by go_num⟩
      case measure => simp [RowKit.intOf]; omega
    · obtain rfl : i = k := by omega
      rw [h1] at c0
      go_wp2
      go_ret
      exact ⟨rfl, rfl⟩

/-! ### lowest -/
def zb (n : Nat) : Array Value := Array.replicate n (.bool false)
theorem zb_eq : Tryz.zeroCells206 = zb 128 := by kernel_rfl
/-- Which sectors were seen. -/
structure Tk (w : World) (g : Nat) (L : Lay) (left : Lit → Bool) (T : Nat → Bool) : Prop where
  row : w.rowIs g 206 128 (fun o => .bool (T o))
  lay : ∀ o, T o = true → ∃ b, At L o b
  all : ∀ o b, At L o b → lf left b = true ∨ T o = true
theorem low_at {L : Lay} {T : Nat → Bool} (h1 : ∀ o, T o = true → ∃ b, At L o b) (h2 : ∀ o b, At L o b → T o = true) (hl : low L < L.length) : (∀ j, j < low L → T j = true) ∧ T (low L) = false := by
  refine ⟨fun j hj => ?_, ?_⟩
  · obtain ⟨b, hb⟩ := low_before hj
    exact h2 j b hb
  · cases hT : T (low L) with
    | false => rfl
    | true =>
      obtain ⟨b, hb⟩ := h1 _ hT
      exact ((low_free hl).not hb).elim
theorem grownBelow {w w' : World} (h : Below w.heap.size w w') : w.grownBy w' none := ⟨h.os, h.tape, h.output, h.size, fun k hk _ => h.block k hk⟩
theorem grownSet (w : World) (b o : Nat) (v : Value) : w.grownBy (w.setCell ⟨b, o, none⟩ v) (some b) := ⟨rfl, rfl, rfl, by simp [World.setCell], fun k _ hn => Below.heap_setCell _ _ _ _ (fun e => hn (by rw [e]))⟩
set_option maxRecDepth 100000 in
set_option maxHeartbeats 4000000 in
theorem lowest_any {w : World} {sb mb pb : Nat} {s : St} {L : Lay} {odd : List Nat} {lost : Bool} {F : Nat → Prop} (h : SF w sb mb pb s L odd lost F) (hl : low L < L.length) :
    Calls Tryz.prog 105 #[.pointer (some ⟨sb, 0, none⟩)] w fun e w' => e = .returned (.int .i64 (low L : Int)) ∧ Below w.heap.size w w' := by
  have hG := Lib.hid h.good
  have hbl : Below w.heap.size w (w.alloc (.cells Tryz.zeroCells206 206)) := (Below.refl _ _).alloc (Nat.le_refl _) _
  have hr0 : (w.alloc (.cells Tryz.zeroCells206 206)).rowIs w.heap.size 206 128 (fun _ => .bool false) := by
    have := World.rowIs_alloc w (zb 128) 206 (fun _ => .bool false) (fun i hi => by rw [show (zb 128)[i]? = if i < 128 then some (Value.bool false) else none from by simp [zb, Array.getElem?_replicate], if_pos (by simpa [zb] using hi)])
    rw [zb_eq]
    rwa [show (zb 128).size = 128 by simp [zb]] at this
  obtain ⟨c0, c1, c3⟩ := (h.below hbl).cells
  have HT := Lib.hid (h.below hbl).tm
  have hw0 : (w.alloc (.cells Tryz.zeroCells206 206)).heap.size = w.heap.size + 1 := by simp
  have HR0 := Lib.hid hr0
  have HB0 := Lib.hid hbl
  clear h hr0 hbl
  go_enter Tryz.func105, Tryz.ntmps105
  go_wp2_with (at_range; refine wpList_range_pl _ rfl _ rfl mb L rfl HT.out ?_; intro w1 left0 cnt0 hrg0 hl0 hg0 hs0)
  rw [hw0] at hrg0 ⊢
  have HR1 : Tk w1 w.heap.size L left0 (fun _ => false) := ⟨HR0.out.of_block (hg0.block _ HR0.out.lt (by simp)), fun o h => by simp at h, fun o b hb => .inl (hl0 o b hb)⟩
  have HB1 : Below w.heap.size w w1 := below_grown HB0.out hg0 HB0.out.size (by simp)
  go_frame
  go_loopw [12] (fun v wr => ∃ (left : Lit → Bool) (c : Nat) (T : Nat → Bool), Rg wr mb (w.heap.size + 1) (cnt L) L left c ∧ Tk wr w.heap.size L left T ∧ Below w.heap.size w wr)
    (fun _ wr => wr.rangeLeft mb (w.heap.size + 1))
  case atStart => exact ⟨left0, cnt0, _, hrg0, HR1, HB1⟩
  case round =>
    obtain ⟨left, c, T, hrg, hT, hB⟩ := hrel
    have HR := Lib.hid hrg
    have HRm := Lib.hid hrg.left_eq
    have HTk := Lib.hid hT
    have HN := Lib.hid hB
    clear hrg hT hB hg0 hs0 hl0 hrg0 HR1 HB1
    go_wp2_with (first
      | (at_next; refine wpList_next_pl _ rfl _ rfl mb (w.heap.size + 1) (cnt L) L left c rfl HR.out ?_ ?_)
      | go_in)
    · intro hdone
      obtain ⟨l1, l2⟩ := low_at HTk.out.lay (fun o b hb => by rcases HTk.out.all o b hb with h | h; (rw [show lf left b = false from hdone _] at h; cases h); (exact h)) hl
      have hhi := hG.out.hi
      have HI := Lib.hid (index_any w.heap.size 128 T (low L) wr (by omega) (fun j hj => HTk.out.row.cell hj) (by omega) l1 l2)
      clear hdone l1 l2
      go_wp2_with fail
      go_at_call 133
      refine HI.out.mono ?_
      rintro e w' ⟨rfl, rfl⟩
      go_wp2
      go_ret
      exact ⟨rfl, HN.out⟩
    · intro i y w2 left2 c2 hy h1 h3 hrg2 hlt hg2 hs2 hen
      have hhi := hG.out.hi
      have hyl := hy.lt
      have hr2 := HTk.out.row.of_block (hg2.block _ HTk.out.row.lt (fun e => (HR.out.ne_cells (HTk.out.row.cell (by omega : 0 < 128))).1 (Option.some.inj e).symm))
      have hba : Below w2.heap.size w2 (w2.alloc (.cells (⟨y, i⟩ : Plc).cells 144)) := (Below.refl _ _).alloc (Nat.le_refl _) _
      have hr3 := hr2.of_block (hba.block _ hr2.lt)
      have d0 := hr3.cell (i := i) (by omega)
      have f0 := hr3.frozen i
      have hiI : (0 : Int) ≤ (i : Int) := by omega
      have hiJ : (i : Int) < 128 := by omega
      have HT3 := Lib.hid (show Tk ((w2.alloc (.cells (⟨y, i⟩ : Plc).cells 144)).setCell ⟨w.heap.size, i, none⟩ (.bool true)) w.heap.size L left2 (fun o => if o = i then true else T o) from ⟨(hr3.set i (.bool true)).congr fun o _ => by split <;> rfl, fun o ho => by
        by_cases e : o = i
        · subst e; exact ⟨y, hy⟩
        · simp only [e, if_false] at ho; exact HTk.out.lay o ho, fun o b hb => by
        by_cases e : o = i
        · right; simp [e]
        · rcases HTk.out.all o b hb with h | h
          · left; rw [h3 o b hb e]; exact h
          · right; simp only [e, if_false]; exact h⟩)
      have HN2 := below_grown HN.out hg2 HN.out.size (by rintro k ⟨rfl⟩; omega)
      have HN3 := Lib.hid (((HN2.trans (hba.mono HN2.size)).setCell (p := ⟨w.heap.size, i, none⟩) (Nat.le_refl _) (.bool true)))
      have HR3 := Lib.hid ((hrg2.kept (grownBelow hba) (by simp) (by simp)).kept (grownSet _ w.heap.size i (.bool true)) (fun e => (HR.out.ne_cells (HTk.out.row.cell (by omega : 0 < 128))).2 (Option.some.inj e)) (fun e => (HR.out.ne_cells (HTk.out.row.cell (by omega : 0 < 128))).1 (Option.some.inj e)))
      clear hrg2 hg2 hs2 h1 h3 hr2 hr3 hba HN2
      go_wp2
      go_roundw
      case rel => exact ⟨left2, c2, _, HR3.out, HT3.out, HN3.out⟩
      case measure => rw [HR3.out.left_eq, HRm.out]; exact hlt
end Go.Proofs.YtmmpknfkncgjpaaGreatDoor
