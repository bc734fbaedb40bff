/-
  Maps by number, of elements that are told by a function: what a lookup tells, what a store leaves.

  A block that is an argument, opened to its cells; numbers that came in (two listed variables).

  What lies on a plate behind any calls of a shelf, wherever the power goes in them: each marked sector is a record, no two of one block have one version; while there is power the sectors are as the layout says.

  Things in memory, each with the blocks that it has: two side by side; a thing that lies beside blocks of one's own, all of it made since a world of old.
-/
import Derived.Test.YtmmpknfkncgjpaaGreatDoorM26
import Derived.Test.YtmmpknfkncgjpaaGreatDoorM18
import Derived.Deep.Slices
import Derived.Deep.Fields
import Derived.Carry
import Derived.ProofKit
import Derived.Lib.SmallJoins
import Derived.Test.YtmmpknfkncgjpaaGreatDoorM23
import Derived.Test.YtmmpknfkncgjpaaGreatDoorM33
import Derived.Test.YtmmpknfkncgjpaaGreatDoorM31
import Derived.Test.YtmmpknfkncgjpaaGreatDoorM37
namespace Go.Proofs.YtmmpknfkncgjpaaGreatDoor
open Go.RowKit Go.WideShapes
open Go.Maps (Keyed)

/-- How elements stand and read. -/
structure El (α : Type) where
  val : α → Value
  dat : α → DataW Unit
  rd : Value → Option (DataW Unit × List MemPlace)
  mkv : ∀ x, rd (val x) = some (dat x, [])
  inv : ∀ {v z}, rd v = some z → ∃ x, v = val x ∧ z = (dat x, [])
  inj : ∀ {x y}, dat x = dat y → x = y
  zero : α
  mt : TypeId
  et : TypeId
  und : Tryz.prog.underlying mt = some (.map 3 et)
  zer : ∀ w, (zeroValue et).run Tryz.prog w = .ok (val zero) w
structure IsM {α : Type} (E : El α) (D : DataW Unit) (g : Int → Option α) : Prop where
  has : ∀ n, i64 n → Maps.has D (kl n) = (g n).isSome
  at_ : ∀ n x, i64 n → g n = some x → ∀ z, D.atKey (kl n) z = E.dat x
/-- Block mb is a map of what g tells; it has not more than N entries. -/
def Mp {α : Type} (E : El α) (w : World) (mb : Nat) (g : Int → Option α) (N : Nat) : Prop := ∃ D, w.ownsMap Tryz.prog 3 E.rd mb N D ∧ IsM E D g
section
variable {α : Type} {E : El α} {w w' : World} {mb N : Nat} {g : Int → Option α}
theorem Mp.lt (h : Mp E w mb g N) : mb < w.heap.size := by obtain ⟨D, h, _⟩ := h; exact h.lt
theorem Mp.of_block (h : Mp E w mb g N) (hb : w'.heap[mb]? = w.heap[mb]?) : Mp E w' mb g N := by
  obtain ⟨D, ⟨es, clock, h1, r⟩, k⟩ := h
  exact ⟨D, ⟨es, clock, hb.trans h1, r⟩, k⟩
theorem Mp.below (h : Mp E w mb g N) (hb : Below w.heap.size w w') : Mp E w' mb g N := h.of_block (hb.block mb h.lt)
theorem Mp.mono (h : Mp E w mb g N) {N' : Nat} (hN : N ≤ N') : Mp E w mb g N' := by
  obtain ⟨D, ⟨es, clock, h1, F, hs, r⟩, k⟩ := h
  exact ⟨D, ⟨es, clock, h1, F, Nat.le_trans hs hN, r⟩, k⟩
theorem Mp.made (E : El α) (w : World) : Mp E (w.alloc (.map #[] 0)) w.heap.size (fun _ => none) 0 :=
  ⟨.map [], World.ownsMap_made w _ _ _, fun _ _ => rfl, fun _ _ _ h => by cases h⟩
theorem Mp.ne_cells {b o : Nat} {v : Value} (h : Mp E w mb g N) (hc : w.cell? ⟨b, o, none⟩ = some v) : mb ≠ b := by
  rintro rfl
  obtain ⟨D, ⟨es, clock, hb, _⟩, _⟩ := h
  simp [World.cell?, hb] at hc
/-- 'v, ok := m[k]'. -/
theorem Mp.look (h : Mp E w mb g N) {n : Int} (hn : i64 n) :
    (Instr.lookup E.mt (.map (some mb)) (.int .i64 n) true).run Tryz.prog w = .ok (.tuple #[E.val ((g n).getD E.zero), .bool (g n).isSome]) w := by
  obtain ⟨D, h, hI⟩ := h
  obtain ⟨v, ps, hrun, hv⟩ := h.look_ok keyK E.und (E.zer w) (E.mkv E.zero) (key_mk hn)
  rw [hrun, hI.has n hn]
  obtain ⟨y, rfl, hy⟩ := E.inv hv
  have hy1 : D.atKey (kl n) (E.dat E.zero) = E.dat y := congrArg Prod.fst hy
  cases hg : g n with
  | none =>
    rw [Maps.atKey_of_not_has (by rw [hI.has n hn, hg]; rfl)] at hy1
    rw [← E.inj hy1]; rfl
  | some b =>
    rw [hI.at_ n b hn hg] at hy1
    rw [← E.inj hy1]; rfl
/-- 'm[k] = v'. -/
theorem Mp.put (h : Mp E w mb g N) {n : Int} (hn : i64 n) (hN : N < 1000000) (x : α) :
    ∃ w', (Instr.mapUpdate E.mt (.map (some mb)) (.int .i64 n) (E.val x)).run Tryz.prog w = .ok () w' ∧ Mp E w' mb (fun m => if m = n then some x else g m) (N + 1) ∧ w.mapTurned w' mb := by
  obtain ⟨D, h, hI⟩ := h
  obtain ⟨w', hrun, h', ht⟩ := h.store keyK E.und (by unfold maxLen; omega) (key_mk hn) (E.mkv x)
  have hT := h.tidy keyK
  refine ⟨w', hrun, ⟨_, h', fun m hm => ?_, fun m y hm hy z => ?_⟩, ht⟩
  · by_cases e : m = n
    · subst e; rw [Maps.has_put_same hT.isMap (kl_key hm), if_pos rfl]; rfl
    · rw [Maps.has_put_other (fun h' => e (kl_inj h')), hI.has m hm, if_neg e]
  · by_cases e : m = n
    · subst e
      rw [if_pos rfl] at hy
      cases hy
      exact Maps.atKey_put_same hT.isMap (kl_key hm) _ _
    · rw [if_neg e] at hy
      rw [Maps.atKey_put_other (fun h' => e (kl_inj h'))]
      exact hI.at_ m y hm hy z
end

/-! ### times -/
def rdI : Value → Option (DataW Unit × List MemPlace)
  | .int .i64 a => some (.lit (.int .i64 a), [])
  | _ => none
theorem zeroI (w : World) : (zeroValue 3).run Tryz.prog w = .ok (.int .i64 0) w := by kernel_rfl
def elI : El Int where
  val x := .int .i64 x
  dat x := .lit (.int .i64 x)
  rd := rdI
  mkv _ := rfl
  inv {v z} h := by
    unfold rdI at h
    split at h
    · cases h; exact ⟨_, rfl, rfl⟩
    · cases h
  inj h := by simpa using h
  zero := 0
  mt := 39
  et := 3
  und := Tryz.underlying39
  zer := zeroI

/-! ### writes -/
def rdW : Value → Option (DataW Unit × List MemPlace)
  | .agg cs => match cs.toList with
    | [.int .i64 a, .int .i64 b] => some (.agg [.lit (.int .i64 a), .lit (.int .i64 b)], [])
    | _ => none
  | _ => none
theorem zeroW (w : World) : (zeroValue 195).run Tryz.prog w = .ok (.agg #[.int .i64 0, .int .i64 0]) w := by kernel_rfl
def elW : El (Int × Int) where
  val x := .agg #[.int .i64 x.1, .int .i64 x.2]
  dat x := .agg [.lit (.int .i64 x.1), .lit (.int .i64 x.2)]
  rd := rdW
  mkv _ := rfl
  inv {v z} h := by
    unfold rdW at h
    split at h
    · rename_i cs
      split at h
      · rename_i a b hc
        cases h
        exact ⟨(a, b), by congr 1; exact Array.toList_inj.1 hc, rfl⟩
      · cases h
    · cases h
  inj {x y} h := by
    obtain ⟨a, b⟩ := x
    obtain ⟨c, d⟩ := y
    simp at h
    obtain ⟨rfl, rfl⟩ := h
    rfl
  zero := (0, 0)
  mt := 40
  et := 195
  und := Tryz.underlying40
  zer := zeroW
end Go.Proofs.YtmmpknfkncgjpaaGreatDoor

namespace Go.Proofs.YtmmpknfkncgjpaaGreatDoor
open Go.ChangeShapes Go.WideShapes Go.RowKit Go.Deep

theorem laidOutK : laidOutB Tryz.prog = true := by kernel_rfl
theorem wf_u64 {x : Int} (h : (Lit.int .u64 x).wf = true) : ∃ n : Nat, x = (n : Int) ∧ n < 18446744073709551616 := by
  simp only [Lit.wf, Bool.and_eq_true, decide_eq_true_eq] at h
  have e1 : IntKind.u64.min = 0 := by decide
  have e2 : IntKind.u64.max = 18446744073709551615 := by decide
  rw [e1, e2] at h
  exact ⟨x.toNat, by omega, by omega⟩
theorem wf_u8 {x : Int} (h : (Lit.int .u8 x).wf = true) : ∃ n : Nat, x = (n : Int) ∧ n < 256 := by
  simp only [Lit.wf, Bool.and_eq_true, decide_eq_true_eq] at h
  have e1 : IntKind.u8.min = 0 := by decide
  have e2 : IntKind.u8.max = 255 := by decide
  rw [e1, e2] at h
  exact ⟨x.toNat, by omega, by omega⟩
theorem wf_i64 {x : Int} (h : (Lit.int .i64 x).wf = true) : x < 9223372036854775808 := by
  simp only [Lit.wf, Bool.and_eq_true, decide_eq_true_eq] at h
  have e2 : IntKind.i64.max = 9223372036854775807 := by decide
  rw [e2] at h
  omega

set_option maxRecDepth 100000 in
/-- A block's cells, as a reading finds them. -/
theorem bk_cells {H : Type} {enc : TypeId × Value → H} {w : World} {base n : Nat} {spare : Nat → Bool} {held : Bool} {cs : List Value} {x : DataW H × List MemPlace} (h : DataW.trod enc Tryz.prog w base spare held n 34 cs = some x) :
    ∃ b : Bk, cs = b.cells.toList ∧ i64 b.id ∧ b.data.size ≤ 9223372036854775807 := by
  obtain ⟨ys, n', _, _, hlen, hyl, hf⟩ := DataW.trod_struct Tryz.underlying34 h
  have hlen : cs.length = 3 := hlen.trans (by kernel_rfl)
  match cs, hlen with
  | [c0, c1, c2], _ =>
    have hy : ∀ j, j < 3 → ∃ y, ys[j]? = some y := fun j hj => ⟨_, List.getElem?_eq_getElem (by rw [hyl]; exact hj)⟩
    obtain ⟨y0, g0⟩ := hy 0 (by omega)
    obtain ⟨y1, g1⟩ := hy 1 (by omega)
    obtain ⟨y2, g2⟩ := hy 2 (by omega)
    have t0 : DataW.trod enc Tryz.prog w base spare held n' 3 (([c0, c1, c2].drop 0).take (Tryz.prog.cellsOf 3)) = some y0 := (hf 0 _ rfl).trans g0
    have t1 : DataW.trod enc Tryz.prog w base spare held n' 3 (([c0, c1, c2].drop 1).take (Tryz.prog.cellsOf 3)) = some y1 := (hf 1 _ rfl).trans g1
    have t2 : DataW.trod enc Tryz.prog w base spare held n' 9 (([c0, c1, c2].drop 2).take (Tryz.prog.cellsOf 9)) = some y2 := (hf 2 _ rfl).trans g2
    have z : Tryz.prog.cellsOf 3 = 1 := by kernel_rfl
    have zs : Tryz.prog.cellsOf 9 = 1 := by kernel_rfl
    simp only [z, zs, List.drop_succ_cons, List.drop_zero, List.take_succ_cons, List.take_zero] at t0 t1 t2
    obtain ⟨q0, e0, -, w0⟩ := DataW.trod_int Tryz.underlying3 t0
    obtain ⟨q1, e1, -, -⟩ := DataW.trod_int Tryz.underlying3 t1
    obtain ⟨q2, e2, -, w2⟩ := DataW.trod_string Tryz.underlying9 t2
    simp only [List.cons.injEq, and_true] at e0 e1 e2
    subst e0 e1 e2
    exact ⟨⟨q0, q1, q2⟩, rfl, w0, by unfold maxLen at w2; show q2.size ≤ _; omega⟩
set_option maxRecDepth 100000 in
/-- A block that an argument is. -/
theorem open_bk {H : Type} {enc : TypeId × Value → H} {W : World} {base b0 : Nat} {spare : Nat → Bool} {held : Bool} {r : Reach} {v : Value} {d : DataW H} {p : List MemPlace} (hv : Value.okWide Tryz.prog W r b0 34 v) (h : DataW.Trod enc Tryz.prog W base spare held 34 v d p) : ∃ q : Bk, v = q.val ∧ i64 q.id ∧ q.data.size ≤ 9223372036854775807 := by
  obtain ⟨cs, rfl, -⟩ := okWide_struct Tryz.underlying34 hv
  obtain ⟨fuel, hf⟩ := h
  obtain ⟨m, hm, h1, h2⟩ := bk_cells (by simpa [Value.cells] using hf)
  exact ⟨m, by rw [show cs = m.cells from Array.toList_inj.1 hm], h1, h2⟩
end Go.Proofs.YtmmpknfkncgjpaaGreatDoor

namespace Go.Proofs.YtmmpknfkncgjpaaGreatDoor
open Go.RowKit

/-! ### a Drop that is cut off -/
/-- A sector is as it was, or its mark is taken. -/
def Qs (T : Nat → List UInt8) (j : Nat) (x : List UInt8) : Prop := x = T j ∨ x = 0 :: (T j).drop 1
theorem Qs.mix {T : Nat → List UInt8} {j : Nat} {x : List UInt8} (h : Qs T j x) (q : Nat) : Qs T j (mix q (0 :: (T j).drop 1) x) := by
  cases q with
  | zero => simpa [Go.Proofs.YtmmpknfkncgjpaaGreatDoor.mix] using h
  | succ q =>
    right
    unfold Go.Proofs.YtmmpknfkncgjpaaGreatDoor.mix
    rcases h with rfl | rfl
    · have e : (T j).drop (q + 1) = ((T j).drop 1).drop q := by rw [List.drop_drop, Nat.add_comm]
      rw [List.take_succ_cons, List.cons_append, e, List.take_append_drop]
    · rw [List.take_succ_cons, List.drop_succ_cons, List.cons_append, List.take_append_drop]
structure Un (T : Nat → List UInt8) (s : St) : Prop where
  wt : ∀ w ∈ s.wait, w.b = 0 :: (T w.i).drop 1
  is_ : ∀ j, Qs T j (s.is.getD j [])
theorem Un.done {T : Nat → List UInt8} {ws : List Wr} {is : List (List UInt8)} (hw : ∀ w ∈ ws, w.b = 0 :: (T w.i).drop 1) (hi : ∀ j, Qs T j (is.getD j [])) (f : Nat → Nat) (k : Nat) : ∀ j, Qs T j ((Go.Proofs.YtmmpknfkncgjpaaGreatDoor.done f ws is k).getD j []) := by
  induction k with
  | zero => exact hi
  | succ k ih =>
    intro j
    cases hk : ws[k]? with
    | none =>
      have e : Go.Proofs.YtmmpknfkncgjpaaGreatDoor.done f ws is (k + 1) = Go.Proofs.YtmmpknfkncgjpaaGreatDoor.done f ws is k := by rw [Go.Proofs.YtmmpknfkncgjpaaGreatDoor.done, hk]
      rw [e]; exact ih j
    | some w =>
      rw [done_succ hk]
      by_cases hl : w.i < (Go.Proofs.YtmmpknfkncgjpaaGreatDoor.done f ws is k).length
      · rw [getD_set hl]
        by_cases e : j = w.i
        · subst e
          rw [if_pos rfl, hw w (List.mem_of_getElem? hk)]
          exact (ih w.i).mix _
        · rw [if_neg e]; exact ih j
      · rw [List.set_eq_of_length_le (by omega)]; exact ih j
theorem Un.crash {T : Nat → List UInt8} {s : St} (h : Un T s) (keep : Nat) : Un T (crash s keep) := by
  unfold Go.Proofs.YtmmpknfkncgjpaaGreatDoor.crash
  split
  · exact h
  · exact ⟨fun w hw => by simp at hw, Un.done h.wt h.is_ _ _⟩
theorem Un.count {T : Nat → List UInt8} {s : St} (h : Un T s) : Un T (count s) := by
  unfold Go.Proofs.YtmmpknfkncgjpaaGreatDoor.count
  split
  · exact ⟨h.wt, h.is_⟩
  · split
    · exact Un.crash (s := { s with n := s.n + 1, left := 0 }) ⟨h.wt, h.is_⟩ _
    · exact ⟨h.wt, h.is_⟩
theorem Un.write {T : Nat → List UInt8} {s : St} (h : Un T s) {k : Nat} (hk : (T k).length = 32) : Un T (writeS s (k : Int) (unm (T k))) := by
  unfold writeS
  split
  · exact h
  · refine Un.count (s := add s (k : Int) (unm (T k))) ⟨fun w hw => ?_, h.is_⟩
    have hw' : w ∈ s.wait ++ [⟨((k : Int)).toNat, pad (unm (T k))⟩] := hw
    rcases List.mem_append.1 hw' with hw | hw
    · exact h.wt w hw
    · rw [List.mem_singleton.1 hw]
      show pad (unm (T k)) = 0 :: (T ((k : Int)).toNat).drop 1
      rw [pad_full (unm_size hk), Int.toNat_natCast]
      unfold unm
      rw [str_toList]
theorem Un.sync {T : Nat → List UInt8} {s : St} (h : Un T s) : Un T (syncS s) := by
  unfold syncS
  split
  · exact h
  · split
    · exact h.count
    · exact ⟨fun w hw => by simp [whole] at hw, Un.done h.count.wt h.count.is_ _ _⟩
theorem Un.read {T : Nat → List UInt8} {s : St} (h : Un T s) (j : Nat) : Qs T j (readB s j) := by
  unfold readB
  generalize hn : s.wait.length = k
  clear hn
  induction k with
  | zero => exact h.is_ j
  | succ k ih =>
    unfold seen
    split
    · exact ih
    · rename_i w hw
      split
      · rename_i e
        right
        rw [h.wt w (List.mem_of_getElem? hw), e]
      · exact ih
theorem Un.dk {T : Nat → List UInt8} {s : St} (h : Un T s) {n : Nat} (hT : ∀ k, k < n → (T k).length = 32) (id : Int) : ∀ k, k ≤ n → Un T (dk T id s k).2.1 := by
  intro k
  induction k with
  | zero => intro _; exact h
  | succ k ih =>
    intro hk
    have h1 := ih (by omega)
    rw [Go.Proofs.YtmmpknfkncgjpaaGreatDoor.dk]
    split
    · exact h1
    · split
      · exact h1
      · split
        · exact h1.write (hT k (by omega))
        · exact h1
theorem drop_un {s : St} {n c : Nat} (h : Rest s n c) (id : Int) (j : Nat) : Qs (readB s) j (readB (dropS s id) j) := by
  have h0 : Un (readB s) s := ⟨fun w hw => (by rw [h.wait] at hw; cases hw), fun j => .inl (by rw [readB_rest h.wait])⟩
  have h1 := h0.dk (n := n) (fun k hk => readB_length h.good (by rw [h.len]; exact hk)) id n (Nat.le_refl _)
  refine Un.read ?_ j
  unfold dropS
  rw [h.len]
  split
  · exact h0
  · split
    · exact h1
    · split
      · exact h1
      · exact h1.sync

/-! ### what holds of the sectors -/
/-- Each marked sector is a record; no two of one block have one version. -/
structure Inv13 (f : Nat → List UInt8) (n : Nat) : Prop where
  know : ∀ i, i < n → mrk (f i) → ∃ b, parse (str (f i)) = some b
  dist : ∀ i j b c, i < n → j < n → parse (str (f i)) = some b → parse (str (f j)) = some c → b.id = c.id → b.ver = c.ver → i = j
theorem Inv13.fit {f : Nat → List UInt8} {n : Nat} (hn : n ≤ 128) (h : Inv13 f n) : Fit f (scan f n n) := by
  obtain ⟨h1, h2, h3⟩ := scan_good (f := f) hn n (Nat.le_refl _)
  refine ⟨h1, fun i b hb => (parse_some (h2 i b hb).2).2.symm, fun i hi => ?_⟩
  have hin : i < n := by have := hi.lt; rwa [scan_length] at this
  cases hp : parse (str (f i)) with
  | none =>
    refine .inl ⟨rfl, fun hm => ?_⟩
    obtain ⟨b, hb⟩ := h.know i hin hm
    rw [hp] at hb; cases hb
  | some c =>
    obtain ⟨j, d, hd, e1, e2⟩ := h3 i c hin hp
    refine .inr ⟨c, j, d, (parse_some hp).1, (parse_some hp).2.symm, hd, e1, ?_⟩
    rcases Int.lt_or_eq_of_le e2 with e3 | e3
    · exact e3
    · have := h.dist i j c d hin (h2 j d hd).1 hp (h2 j d hd).2 e1.symm e3
      subst this
      exact (hi.not hd).elim
theorem Inv13.same {f g : Nat → List UInt8} {n : Nat} (h : Inv13 f n) (hg : ∀ j, j < n → g j = f j) : Inv13 g n :=
  ⟨fun i hi hm => by rw [hg i hi] at hm ⊢; exact h.know i hi hm, fun i j b c hi hj hb hc => by rw [hg i hi] at hb; rw [hg j hj] at hc; exact h.dist i j b c hi hj hb hc⟩
/-- Marks are taken. -/
theorem Inv13.less {f g : Nat → List UInt8} {n : Nat} (h : Inv13 f n) (hg : ∀ j, j < n → g j = f j ∨ ¬ mrk (g j)) : Inv13 g n := by
  have hp : ∀ j b, j < n → parse (str (g j)) = some b → parse (str (f j)) = some b := fun j b hj hb => by
    rcases hg j hj with e | e
    · rw [← e]; exact hb
    · rw [parse_head e] at hb; cases hb
  refine ⟨fun i hi hm => ?_, fun i j b c hi hj hb hc => h.dist i j b c hi hj (hp i b hi hb) (hp j c hj hc)⟩
  rcases hg i hi with e | e
  · rw [e] at hm ⊢; exact h.know i hi hm
  · exact absurd hm e
theorem Fit.older {f : Nat → List UInt8} {L : Lay} (h : Fit f L) {b : Bk} (hn : newer L b = true) {j : Nat} {c : Bk} (hj : j < L.length) (hc : parse (str (f j)) = some c) (he : c.id = b.id) : c.ver < b.ver := by
  have hn' := (newer_iff h.good).1 hn
  cases hx : L[j] with
  | some d =>
    have hd : At L j d := by unfold At; rw [List.getElem?_eq_getElem hj, hx]
    have := parse_of (h.good.ok j d hd) (h.on j d hd).symm
    rw [hc] at this
    cases this
    exact hn' j c hd he
  | none =>
    have hf : Fre L j := by unfold Fre; rw [List.getElem?_eq_getElem hj, hx]
    rcases h.off j hf with ⟨h1, -⟩ | ⟨c', k, d, hc', e3, hd, e4, e5⟩
    · rw [hc] at h1; cases h1
    · rw [parse_of hc' e3.symm] at hc
      cases hc
      have := hn' k d hd (e4.trans he)
      omega
theorem Inv13.put {f g : Nat → List UInt8} {L : Lay} (h : Inv13 f L.length) (hf : Fit f L) {i : Nat} (hi : i < L.length) (hg : ∀ j, j < L.length → j ≠ i → g j = f j) {b : Bk} (hb : refE b 1 = 0) (hn : newer L b = true) (hp : str (g i) = recB b 1) : Inv13 g L.length := by
  have hpi : parse (str (g i)) = some b := parse_of hb hp.symm
  refine ⟨fun j hj hm => ?_, fun j k c d hj hk hc hd e1 e2 => ?_⟩
  · by_cases e : j = i
    · subst e; exact ⟨b, hpi⟩
    · rw [hg j hj e] at hm ⊢; exact h.know j hj hm
  · by_cases ej : j = i
    · by_cases ek : k = i
      · rw [ej, ek]
      · subst ej
        rw [hpi] at hc
        cases hc
        rw [hg k hk ek] at hd
        have := hf.older hn hk hd e1.symm
        omega
    · rw [hg j hj ej] at hc
      by_cases ek : k = i
      · subst ek
        rw [hpi] at hd
        cases hd
        have := hf.older hn hj hc e1
        omega
      · rw [hg k hk ek] at hd
        exact h.dist j k c d hj hk hc hd e1 e2
theorem unm_mrk (x : List UInt8) : ¬ mrk (0 :: x) := by rw [mrk_cons]; decide
/-- A plate, and the layout of the shelf on it, behind any calls. -/
structure Nice (s : St) (L : Lay) (n c : Nat) : Prop where
  rest : Rest s n c
  len : L.length = n
  inv : Inv13 (readB s) n
  fit : s.gone = false → Fit (readB s) L
theorem Nice.mono {s : St} {L : Lay} {n c c' : Nat} (h : Nice s L n c) (hc : c ≤ c') : Nice s L n c' := ⟨h.rest.mono hc, h.len, h.inv, h.fit⟩
theorem Nice.fresh (k : Int) : Nice (fresh k) (List.replicate (size0 k) none) (size0 k) 0 := by
  have hz : ∀ i, i < size0 k → readB (Go.Proofs.YtmmpknfkncgjpaaGreatDoor.fresh k) i = zeros 32 := fun i hi => by
    rw [readB_rest (fresh_rest k).wait]
    show (List.replicate (size0 k) (zeros 32)).getD i [] = _
    simp [List.getD, hi]
  have hnm : ¬ mrk (zeros 32) := by unfold mrk; decide +kernel
  refine ⟨fresh_rest k, by simp, ⟨fun i hi hm => ?_, fun i j b c hi hj hb hc => ?_⟩, fun _ => fresh_fit k⟩
  · rw [hz i hi] at hm; exact absurd hm hnm
  · rw [hz i hi, parse_head hnm] at hb; cases hb
theorem Nice.cut {s : St} {L : Lay} {n c : Nat} (h : Nice s L n c) {k : Int} {keep : Nat} (hk : k < 9223372036854775808) (hkp : keep < 18446744073709551616) : Nice (cut s k keep) L n c :=
  ⟨h.rest.cut hk hkp, h.len, h.inv, h.fit⟩
theorem crash_read {s : St} (h : s.wait = []) (keep j : Nat) : readB (crash s keep) j = readB s j ∧ (crash s keep).gone = true := by
  unfold Go.Proofs.YtmmpknfkncgjpaaGreatDoor.crash
  split
  · rename_i hg; exact ⟨rfl, hg⟩
  · refine ⟨?_, rfl⟩
    rw [readB_rest h, readB_rest rfl]
    show (Go.Proofs.YtmmpknfkncgjpaaGreatDoor.done _ s.wait s.is s.wait.length).getD j [] = _
    rw [h]; rfl
theorem power_readB {s : St} (h : s.wait = []) (j : Nat) : readB (power s) j = readB s j := by
  rw [readB_rest h, readB_rest (s := power s) h]; rfl
/-- What a Put comes to: nothing on the sectors, or the block's record. -/
theorem Nice.put_out {s : St} {L : Lay} {n c : Nat} (h : Nice s L n c) (hg : s.gone = false) (b : Bk) :
    Inv13 (readB (putS L s b)) n ∧ ((Fit (readB (putS L s b)) L ∧ putE L s b ≠ 0) ∨ (Fit (readB (putS L s b)) (putL L (low L) b) ∧ preE L s.gone b = 0)) ∧ (putE L s b = 0 → Fit (readB (putS L s b)) (putY L s b) ∧ putY L s b = putL L (low L) b) := by
  have hf := h.fit hg
  by_cases hp : preE L s.gone b = 0
  · obtain ⟨r1, r2, r3, r4⟩ := preE_zero hp
    have e1 : putS L s b = wrS s (low L) b := by unfold putS; rw [if_neg (by omega)]
    have e2 : putE L s b = wrE s (low L) b := by unfold putE; rw [if_neg (by omega)]
    obtain ⟨q1, q2, q3⟩ := h.rest.wr_out hg (i := low L) (by rw [← h.len]; exact r4) r1
    have hother : ∀ j, j < L.length → j ≠ low L → readB (wrS s (low L) b) j = readB s j := fun j _ hj => q1 j hj
    rw [e1, e2]
    have hin : Inv13 (readB s) L.length := by rw [h.len]; exact h.inv
    have fput := fun hr => hf.put (low_free r4) hother r1 r3 hr
    have iput := fun hr => hin.put hf r4 hother r1 r3 hr
    rw [h.len] at iput
    refine ⟨?_, ?_, fun he => ?_⟩
    · rcases q3 with q | q | q
      · refine h.inv.same fun j hj => ?_
        by_cases e : j = low L
        · subst e; exact q
        · exact q1 j e
      · refine h.inv.less fun j hj => ?_
        by_cases e : j = low L
        · subst e; exact .inr q
        · exact .inl (q1 j e)
      · exact iput q
    · by_cases he : wrE s (low L) b = 0
      · exact .inr ⟨fput (q2 he).1, hp⟩
      · rcases q3 with q | q | q
        · refine .inl ⟨hf.same fun j hj => ?_, he⟩
          by_cases e : j = low L
          · subst e; exact q
          · exact q1 j e
        · exact .inl ⟨hf.torn (low_free r4) hother q, he⟩
        · exact .inr ⟨fput q, hp⟩
    · have hy : putY L s b = putL L (low L) b := (putY_zero (by rw [e2]; exact he)).1
      rw [hy]
      exact ⟨fput (q2 he).1, rfl⟩
  · have e1 : putS L s b = s := if_pos hp
    have e2 : putE L s b = preE L s.gone b := if_pos hp
    rw [e1, e2]
    exact ⟨h.inv, .inl ⟨hf, hp⟩, fun he => absurd he hp⟩
theorem Nice.put {s : St} {L : Lay} {n c : Nat} (h : Nice s L n c) (hG : GoodL L) (b : Bk) : Nice (putS L s b) (putY L s b) n (c + 4) := by
  refine ⟨h.rest.put h.len b, by rw [(putY_good hG s b).2]; exact h.len, ?_, fun hg' => ?_⟩
  · cases hg : s.gone with
    | false => exact (h.put_out hg b).1
    | true =>
      have e : putS L s b = s := by
        unfold putS
        rw [if_pos]
        unfold preE
        split
        · assumption
        · first | decide | (rw [if_pos hg]; decide)
      rw [e]; exact h.inv
  · cases hg : s.gone with
    | true =>
      have := (put_lost h.rest h.len b).1 hg
      rw [this] at hg'; cases hg'
    | false =>
      obtain ⟨-, h2, h3⟩ := h.put_out hg b
      by_cases he : putE L s b = 0
      · exact (h3 he).1
      · rw [putY_other he]
        rcases h2 with ⟨h2, -⟩ | ⟨-, hp⟩
        · exact h2
        · -- the write was begun and failed: the power went
          exfalso
          obtain ⟨r1, r2, r3, r4⟩ := preE_zero hp
          have e1 : putS L s b = wrS s (low L) b := by unfold putS; rw [if_neg (by omega)]
          have e2 : putE L s b = wrE s (low L) b := by unfold putE; rw [if_neg (by omega)]
          rw [e2] at he
          have := (h.rest.wr_dead (by rw [← h.len]; exact r4) r1 he).2
          rw [← e1] at this
          rw [this] at hg'; cases hg'
theorem Nice.drop {s : St} {L : Lay} {n c : Nat} (h : Nice s L n c) (hG : GoodL L) (id : Int) : Nice (dropS s id) (dropY L s id) n (c + n + 1) := by
  have hq := drop_un h.rest id
  refine ⟨h.rest.drop id, by rw [(dropY_good hG s id).2]; exact h.len, h.inv.less fun j _ => ?_, fun hg' => ?_⟩
  · rcases hq j with e | e
    · exact .inl e
    · rw [e]; exact .inr (unm_mrk _)
  · cases hg : s.gone with
    | true =>
      have := (drop_lost h.rest id).1 hg
      rw [this] at hg'; cases hg'
    | false =>
      have hf := h.fit hg
      have hI := h.rest.dk hg id n (Nat.le_refl _)
      have hn := h.rest.len
      by_cases h0 : (dk (readB s) id s n).1 = 0
      · cases hb : (dk (readB s) id s n).2.2 with
        | false =>
          obtain ⟨e1, e2⟩ := drop_none hg hn h0 hb
          have hs := hI.none_ h0 hb
          rw [e2, hs]
          unfold dropY
          rw [e1, if_pos (by decide)]
          exact hf
        | true =>
          obtain ⟨e1, e2⟩ := drop_some hg hn h0 hb
          by_cases he : syncE (dk (readB s) id s n).2.1 = 0
          · have hr := read_sync hI.good he
            unfold dropY
            rw [e1, he, if_neg (by simp), e2]
            refine hf.drop id (fun j hj hno => ?_) (fun j b hj hp hid => ?_)
            · rw [hr.1 j, hI.at_ h0 j, if_neg]
              rintro ⟨-, b, hb, e⟩
              exact hno b hb e
            · rw [hr.1 j, hI.at_ h0 j, if_pos ⟨by rw [← h.len]; exact hj, b, hp, hid⟩]
              exact unm_mrk _
          · have := (syncE_dead he).2
            rw [e2] at hg'
            rw [this] at hg'; cases hg'
      · obtain ⟨-, e2⟩ := drop_hit hg hn (Nat.le_refl n) h0
        have := (hI.bad h0).2
        rw [e2] at hg'
        rw [this] at hg'; cases hg'
theorem rest_crash {s : St} {n c : Nat} (h : Rest s n c) (keep : Nat) : Rest (crash s keep) n c ∧ (crash s keep).gone = true := by
  have hw := Still.crash s keep (still_of h.wait)
  refine ⟨⟨h.good.crash keep, hw.1, by rw [crash_len]; exact h.len, ?_⟩, hw.2⟩
  unfold Go.Proofs.YtmmpknfkncgjpaaGreatDoor.crash
  split
  · exact h.few
  · exact h.few
theorem Nice.crash {s : St} {L : Lay} {n c : Nat} (h : Nice s L n c) (keep : Nat) : Nice (crash s keep) L n c ∧ (crash s keep).gone = true := by
  obtain ⟨h1, h2⟩ := rest_crash h.rest keep
  exact ⟨⟨h1, h.len, h.inv.same fun j _ => (crash_read h.rest.wait keep j).1, fun e => by rw [h2] at e; cases e⟩, h2⟩
/-- Power is there again, the shelf is opened. -/
theorem Nice.opened {s : St} {L : Lay} {n c : Nat} (h : Nice s L n c) : Nice (power s) (scan (readB (power s)) n n) n c ∧ (∀ j, readB (power s) j = readB s j) := by
  have hr := fun j => power_readB h.rest.wait j
  have hin : Inv13 (readB (power s)) n := h.inv.same fun j _ => hr j
  have hR := h.rest
  refine ⟨⟨⟨h.rest.good.power, h.rest.wait, h.rest.len, h.rest.few⟩, scan_length _ _ _, hin, fun _ => hin.fit (by have := h.rest.good.hi; rw [h.rest.len] at this; exact this)⟩, hr⟩
end Go.Proofs.YtmmpknfkncgjpaaGreatDoor

namespace Go.Proofs.YtmmpknfkncgjpaaGreatDoor
open Go.RowKit

/-- A thing in memory: where it stands, and the blocks that it has. -/
structure Ob where
  at_ : World → (Nat → Prop) → Prop
  lt : ∀ {w F}, at_ w F → ∀ k, F k → k < w.heap.size
  keeps : ∀ {w w' F G}, at_ w F → Keeps G w w' → (∀ k, F k → ¬ G k) → at_ w' F
theorem Ob.below (X : Ob) {w w' : World} {F : Nat → Prop} (h : X.at_ w F) (hb : Below w.heap.size w w') : X.at_ w' F := X.keeps h (Keeps.of_below (F := fun _ => False) hb) (fun _ _ h => h)
/-- Two side by side. -/
def Ob.mul (X Y : Ob) : Ob where
  at_ w F := ∃ F1 F2, X.at_ w F1 ∧ Y.at_ w F2 ∧ (∀ k, F1 k → ¬ F2 k) ∧ ∀ k, F k ↔ (F1 k ∨ F2 k)
  lt := fun ⟨F1, F2, h1, h2, _, h4⟩ k hk => by
    rcases (h4 k).1 hk with h | h
    · exact X.lt h1 k h
    · exact Y.lt h2 k h
  keeps := fun ⟨F1, F2, h1, h2, h3, h4⟩ hk hd => ⟨F1, F2, X.keeps h1 hk fun k h => hd k ((h4 k).2 (.inl h)), Y.keeps h2 hk fun k h => hd k ((h4 k).2 (.inr h)), h3, h4⟩
section
variable {X Y : Ob} {w : World} {F : Nat → Prop}
theorem Ob.left (h : (X.mul Y).at_ w F) : ∃ F1, X.at_ w F1 ∧ (∀ k, F1 k → F k) ∧ ∀ (X' : Ob) w', Goes F1 w w' (X'.at_ w') → Goes F w w' ((X'.mul Y).at_ w') := by
  obtain ⟨F1, F2, h1, h2, h3, h4⟩ := h
  refine ⟨F1, h1, fun k hk => (h4 k).2 (.inl hk), fun X' w' ⟨F1', q1, q2, q3⟩ => ⟨fun k => F1' k ∨ F2 k, ⟨F1', F2, q1, Y.keeps h2 q3 fun k hk hf => h3 k hf hk, fun k hk hf => ?_, fun k => Iff.rfl⟩, fun k hk => ?_, ?_⟩⟩
  · rcases q2 k hk with h | h
    · exact h3 k h hf
    · have := Y.lt h2 k hf; omega
  · rcases hk with hk | hk
    · rcases q2 k hk with h | h
      · exact .inl ((h4 k).2 (.inl h))
      · exact .inr h
    · exact .inl ((h4 k).2 (.inr hk))
  · exact ⟨q3.os, q3.tape, q3.output, q3.size, fun k hk hn => q3.block k hk fun hf => hn ((h4 k).2 (.inl hf))⟩
theorem Ob.right (h : (X.mul Y).at_ w F) : ∃ F2, Y.at_ w F2 ∧ (∀ k, F2 k → F k) ∧ ∀ (Y' : Ob) w', Goes F2 w w' (Y'.at_ w') → Goes F w w' ((X.mul Y').at_ w') := by
  obtain ⟨F1, F2, h1, h2, h3, h4⟩ := h
  refine ⟨F2, h2, fun k hk => (h4 k).2 (.inr hk), fun Y' w' ⟨F2', q1, q2, q3⟩ => ⟨fun k => F1 k ∨ F2' k, ⟨F1, F2', X.keeps h1 q3 h3, q1, fun k hk hf => ?_, fun k => Iff.rfl⟩, fun k hk => ?_, ?_⟩⟩
  · rcases q2 k hf with h | h
    · exact h3 k hk h
    · have := X.lt h1 k hk; omega
  · rcases hk with hk | hk
    · exact .inl ((h4 k).2 (.inl hk))
    · rcases q2 k hk with h | h
      · exact .inl ((h4 k).2 (.inr h))
      · exact .inr h
  · exact ⟨q3.os, q3.tape, q3.output, q3.size, fun k hk hn => q3.block k hk fun hf => hn ((h4 k).2 (.inr hf))⟩
end
/-- Nothing. -/
def Ob.nil : Ob := ⟨fun _ F => ∀ k, ¬ F k, fun h k hk => (h k hk).elim, fun h _ _ => h⟩
/-- A row of values that is owned. -/
def Ob.row (base e size n : Nat) (v : Value) (xs : List Value) : Ob := ⟨fun w F => w.ownsRow base e size v n xs ∧ ∀ k, F k ↔ v.ownBlock = some k, fun ⟨h, hF⟩ k hk => owns_lt h ((hF k).1 hk), fun ⟨h, hF⟩ hk hd => ⟨hk.owns h fun g hg => hd g ((hF g).2 hg), hF⟩⟩
/-- A block known whole. -/
def Ob.blk (b : Nat) (o : Obj) : Ob := ⟨fun w F => w.heap[b]? = some o ∧ ∀ k, F k ↔ k = b, fun ⟨h, hF⟩ k hk => by rw [(hF k).1 hk]; exact (Array.getElem?_eq_some_iff.1 h).1, fun ⟨h, hF⟩ hk hd => ⟨by rw [hk.block b (Array.getElem?_eq_some_iff.1 h).1 (hd b ((hF b).2 rfl))]; exact h, hF⟩⟩
/-- A struct in a block. -/
def Ob.stc (b t n : Nat) (f : Nat → Value) : Ob := ⟨fun w F => w.rowIs b t n f ∧ ∀ k, F k ↔ k = b, fun ⟨h, hF⟩ k hk => by rw [(hF k).1 hk]; exact h.lt, fun ⟨h, hF⟩ hk hd => ⟨hk.row h (hd b ((hF b).2 rfl)), hF⟩⟩

/-- X, made since w0, beside the blocks O; all that lay in w0 lies as it did. -/
def Hold (w0 w : World) (X : Ob) (O : Nat → Prop) : Prop :=
  ∃ F, X.at_ w F ∧ (∀ k, F k → w0.heap.size ≤ k) ∧ Below w0.heap.size w0 w ∧ ∀ k, O k → ¬ F k ∧ k < w.heap.size
section
variable {w0 w w' : World} {X : Ob} {O O' : Nat → Prop}
theorem Hold.bel (h : Hold w0 w X O) : Below w0.heap.size w0 w := by obtain ⟨F, h1, h2, h3, h4⟩ := h; exact h3
theorem Hold.tab (h : Hold w0 w X O) (hT : Tab w0) : Tab w := hT.below h.bel
theorem Hold.none_ (hb : Below w0.heap.size w0 w) (hO : ∀ k, O k → k < w.heap.size) : Hold w0 w Ob.nil O := ⟨fun _ => False, fun _ h => h, fun _ h => h.elim, hb, fun k hk => ⟨fun h => h, hO k hk⟩⟩
theorem Hold.go (h : Hold w0 w X O) : ∃ F, X.at_ w F ∧ (∀ k, F k → w0.heap.size ≤ k) ∧ ∀ (X' : Ob) w', Goes F w w' (X'.at_ w') → Hold w0 w' X' O ∧ Kept O w w' := by
  obtain ⟨F, h1, h2, h3, h4⟩ := h
  refine ⟨F, h1, h2, fun X' w' ⟨F', k1, k2, k3⟩ => ⟨⟨F', k1, fun k hk => ?_, k3.below h3 h3.size h2, fun k hk => ⟨fun hf => ?_, Nat.lt_of_lt_of_le (h4 k hk).2 k3.size⟩⟩, fun k hk => k3.block k (h4 k hk).2 (h4 k hk).1⟩⟩
  · rcases k2 k hk with h | h
    · exact h2 k h
    · exact Nat.le_trans h3.size h
  · rcases k2 k hf with h | h
    · exact (h4 k hk).1 h
    · have := (h4 k hk).2; omega
theorem Hold.below (h : Hold w0 w X O) (hb : Below w.heap.size w w') : Hold w0 w' X O ∧ Kept O w w' := by
  obtain ⟨F, h1, h2, h3, h4⟩ := h
  exact ⟨⟨F, X.below h1 hb, h2, h3.trans (hb.mono h3.size), fun k hk => ⟨(h4 k hk).1, Nat.lt_of_lt_of_le (h4 k hk).2 hb.size⟩⟩, fun k hk => hb.block k (h4 k hk).2⟩
theorem Hold.news (h : Hold w0 w X O) (hb : Below w.heap.size w w') : Hold w0 w' X (fun k => O k ∨ (w.heap.size ≤ k ∧ k < w'.heap.size)) := by
  obtain ⟨F, h1, h2, h3, h4⟩ := h
  refine ⟨F, X.below h1 hb, h2, h3.trans (hb.mono h3.size), fun k hk => ?_⟩
  rcases hk with hk | ⟨k1, k2⟩
  · exact ⟨(h4 k hk).1, Nat.lt_of_lt_of_le (h4 k hk).2 hb.size⟩
  · exact ⟨fun hf => by have := X.lt h1 k hf; omega, k2⟩
theorem Hold.less (h : Hold w0 w X O) (hO : ∀ k, O' k → O k) : Hold w0 w X O' := by
  obtain ⟨F, h1, h2, h3, h4⟩ := h
  exact ⟨F, h1, h2, h3, fun k hk => h4 k (hO k hk)⟩
/-- One's own blocks turn, and new ones. -/
theorem Hold.turn (h : Hold w0 w X O) (hk : Keeps O w w') (h0 : ∀ k, O k → w0.heap.size ≤ k) (hO : ∀ k, O' k → O k ∨ w.heap.size ≤ k) (hlt : ∀ k, O' k → k < w'.heap.size) : Hold w0 w' X O' := by
  obtain ⟨F, h1, h2, h3, h4⟩ := h
  refine ⟨F, X.keeps h1 hk (fun k hf ho => (h4 k ho).1 hf), h2, hk.below h3 h3.size h0, fun k hk' => ⟨fun hf => ?_, hlt k hk'⟩⟩
  rcases hO k hk' with h | h
  · exact (h4 k h).1 hf
  · have := X.lt h1 k hf; omega
end
end Go.Proofs.YtmmpknfkncgjpaaGreatDoor
