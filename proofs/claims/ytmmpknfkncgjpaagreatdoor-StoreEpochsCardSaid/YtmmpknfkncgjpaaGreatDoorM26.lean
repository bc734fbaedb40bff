/-
  A map of places by number, as the model has it: what it reads as, and where each block lies.
-/
import Derived.Test.YtmmpknfkncgjpaaGreatDoorM25
import Derived.Maps.RangeWalk
import Derived.DeepKeys5
import Derived.KernelRfl
import Derived.Lib.SlKeysI
namespace Go.Proofs.YtmmpknfkncgjpaaGreatDoor
open Go.RowKit Go.WideShapes
open Go.Maps (Keyed)

/-! ### keys -/
theorem keyK : Keyed Tryz.prog 3 := Maps.int_keyed Tryz.underlying3
/-- A number that an int may be. -/
@[reducible] def i64 (x : Int) : Prop := (Lit.int .i64 x).wf = true
theorem i64_iff (x : Int) : i64 x ↔ (-9223372036854775808 ≤ x ∧ x ≤ 9223372036854775807) := by
  unfold i64; simp [Lit.wf, IntKind.min, IntKind.max, IntKind.signed, IntKind.bits]
@[reducible] def kl (n : Int) : Lit := .int .i64 n
theorem key_mk {n : Int} (hn : i64 n) : keyOf Tryz.prog 3 (.int .i64 n) = some (kl n) := by
  simp [keyOf, Tryz.underlying3, mapKey, hn]
theorem key_inv {v : Value} {l : Lit} (h : keyOf Tryz.prog 3 v = some l) : ∃ n, v = .int .i64 n ∧ l = kl n ∧ i64 n := Maps.keyOf_i64 Tryz.underlying3 h
theorem kl_inj {n m : Int} (h : kl n = kl m) : n = m := by simpa using h
theorem kl_key {n : Int} (h : i64 n) : WideAt.IsKeyLit (kl n) := keyK.key (key_mk h)
theorem Bk.id64 {b : Bk} (h : refE b 1 = 0) : i64 b.id := by rw [i64_iff]; obtain ⟨⟨h1, h2, _⟩, _⟩ := refE_zero.1 h; omega

/-! ### elements -/
/-- A place: a block, and its sector. -/
structure Plc where
  b : Bk
  i : Int
@[reducible] def Plc.val (p : Plc) : Value := .agg #[.int .i64 p.b.id, .int .i64 p.b.ver, .string p.b.data, .int .i64 p.i]
@[reducible] def Plc.cells (p : Plc) : Array Value := #[.int .i64 p.b.id, .int .i64 p.b.ver, .string p.b.data, .int .i64 p.i]
@[reducible] def Plc.dat (p : Plc) : DataW Unit := .agg [.lit (.int .i64 p.b.id), .lit (.int .i64 p.b.ver), .lit (.string p.b.data.data.toList), .lit (.int .i64 p.i)]
def Plc.zero : Plc := ⟨Bk.zero, 0⟩
theorem dat_inj {x y : Plc} (h : x.dat = y.dat) : x = y := by
  obtain ⟨⟨a, b, c⟩, d⟩ := x
  obtain ⟨⟨a', b', c'⟩, d'⟩ := y
  simp at h
  obtain ⟨rfl, rfl, h3, rfl⟩ := h
  have : c = c' := by rw [← str_of c, ← str_of c', h3]
  rw [this]
/-- How an element reads. -/
def elP : Value → Option (DataW Unit × List MemPlace)
  | .agg cs => match cs.toList with
    | [.int .i64 a, .int .i64 b, .string c, .int .i64 d] => some (Plc.dat ⟨⟨a, b, c⟩, d⟩, [])
    | _ => none
  | _ => none
theorem elP_mk (x : Plc) : elP x.val = some (x.dat, []) := rfl
theorem elP_inv {v : Value} {z : DataW Unit × List MemPlace} (h : elP v = some z) : ∃ x : Plc, v = x.val ∧ z = (x.dat, []) := by
  unfold elP at h
  split at h
  · rename_i cs
    split at h
    · rename_i a b c d hc
      cases h
      exact ⟨⟨⟨a, b, c⟩, d⟩, by congr 1; exact Array.toList_inj.1 hc, rfl⟩
    · cases h
  · cases h
theorem zeroP (w : World) : (zeroValue 144).run Tryz.prog w = .ok Plc.zero.val w := by kernel_rfl

/-! ### what the map reads as -/
structure Is (D : DataW Unit) (L : Lay) : Prop where
  has : ∀ n, i64 n → Maps.has D (kl n) = (getL L n).isSome
  at_ : ∀ i b, At L i b → ∀ z, D.atKey (kl b.id) z = (⟨b, i⟩ : Plc).dat
  size : Maps.size D = cnt L
theorem cnt_replicate (n : Nat) : cnt (List.replicate n none) = 0 := by
  unfold cnt; rw [List.countP_replicate]; simp
theorem is_nil (n : Nat) : Is (.map []) (List.replicate n none) := by
  refine ⟨fun n _ => ?_, fun i b h => (at_replicate h).elim, by rw [cnt_replicate]; rfl⟩
  rw [getL_of_none fun i b h => (at_replicate h).elim]; rfl
theorem Is.put {D : DataW Unit} {L : Lay} (h : Is D L) (hT : Maps.Tidy D) (hG : GoodL L) {b : Bk} (hb : refE b 1 = 0) {i : Nat} (hi : Fre L i) : Is (D.put (kl b.id) (⟨b, i⟩ : Plc).dat) (putL L i b) := by
  have n1 := Bk.id64 hb
  refine ⟨fun n hn => ?_, fun j c hc z => ?_, ?_⟩
  · rw [getL_put hG hi hb]
    by_cases e : n = b.id
    · subst e
      rw [Maps.has_put_same hT.isMap (kl_key n1), if_pos rfl]; rfl
    · rw [Maps.has_put_other (fun h' => e (kl_inj h')), h.has n hn, if_neg e]
  · rcases (at_put hi.lt).1 hc with ⟨rfl, rfl⟩ | ⟨_, hc, e⟩
    · exact Maps.atKey_put_same hT.isMap (kl_key n1) _ _
    · rw [Maps.atKey_put_other (fun h' => e (kl_inj h'))]
      exact h.at_ j c hc z
  · rw [Maps.size_put hT, h.has _ n1, h.size, cnt_put hG hi b]
    cases (getL L b.id).isSome <;> rfl
theorem Is.del {D : DataW Unit} {L : Lay} (h : Is D L) (hT : Maps.Tidy D) (hG : GoodL L) {n : Int} (hn : i64 n) : Is (D.del (kl n)) (woL L n) := by
  refine ⟨fun m hm => ?_, fun j c hc z => ?_, ?_⟩
  · rw [getL_wo hG]
    by_cases e : m = n
    · subst e; rw [Maps.has_del_same, if_pos rfl]; rfl
    · rw [Maps.has_del_other (fun h' => e (kl_inj h')), h.has m hm, if_neg e]
  · obtain ⟨hc, e⟩ := at_wo.1 hc
    rw [Maps.atKey_del_other (fun h' => e (kl_inj h'))]
    exact h.at_ j c hc z
  · have h1 := Maps.size_del (D := D) (k := kl n) hT
    have h2 := cnt_wo hG.un n
    rw [h.has n hn, h.size] at h1
    cases hs : (getL L n).isSome <;> rw [hs] at h1 h2 <;> simp_all <;> omega
/-- What stands at a key is the place of that number's block. -/
theorem Is.found {D : DataW Unit} {L : Lay} (h : Is D L) {n : Int} (hn : i64 n) {y : Plc} (hh : Maps.has D (kl n) = true) (ha : ∀ z, D.atKey (kl n) z = y.dat) : ∃ i b, At L i b ∧ b.id = n ∧ y = ⟨b, i⟩ := by
  rw [h.has n hn] at hh
  obtain ⟨b, hb⟩ := Option.isSome_iff_exists.1 hh
  obtain ⟨⟨i, hi⟩, rfl⟩ := getL_some hb
  have := h.at_ i b hi .nil
  rw [ha] at this
  exact ⟨i, b, hi, rfl, dat_inj this⟩

/-- Block mb is a map of the places of L. -/
def Tm (w : World) (mb : Nat) (L : Lay) : Prop := ∃ D, w.ownsMap Tryz.prog 3 elP mb (cnt L) D ∧ Is D L ∧ GoodL L
theorem tight {w : World} {b n : Nat} {D : DataW Unit} (h : w.ownsMap Tryz.prog 3 elP b n D) : w.ownsMap Tryz.prog 3 elP b (Maps.size D) D := by
  obtain ⟨es, clock, hb, F, hs, rfl⟩ := h
  exact ⟨es, clock, hb, F, by simp [Maps.size, length_sorted], rfl⟩
theorem Tm.lt {w : World} {mb : Nat} {L : Lay} (h : Tm w mb L) : mb < w.heap.size := by obtain ⟨D, h, _⟩ := h; exact h.lt
theorem Tm.good {w : World} {mb : Nat} {L : Lay} (h : Tm w mb L) : GoodL L := by obtain ⟨D, _, _, h⟩ := h; exact h
theorem Tm.of_block {w w' : World} {mb : Nat} {L : Lay} (h : Tm w mb L) (hb : w'.heap[mb]? = w.heap[mb]?) : Tm w' mb L := by
  obtain ⟨D, ⟨es, clock, h1, r⟩, k⟩ := h
  exact ⟨D, ⟨es, clock, hb.trans h1, r⟩, k⟩
theorem Tm.below {w w' : World} {mb : Nat} {L : Lay} (h : Tm w mb L) (hb : Below w.heap.size w w') : Tm w' mb L := h.of_block (hb.block mb h.lt)
theorem Tm.made (w : World) (n : Nat) (hn : n ≤ 128) : Tm (w.alloc (.map #[] 0)) w.heap.size (List.replicate n none) := by
  refine ⟨.map [], ?_, is_nil n, ⟨by simpa using hn, fun i b h => (at_replicate h).elim, fun i j b c h => (at_replicate h).elim⟩⟩
  rw [cnt_replicate]; exact World.ownsMap_made w _ _ _
/-- A block of cells is no map. -/
theorem Tm.ne_cells {w : World} {mb b o : Nat} {v : Value} {L : Lay} (h : Tm w mb L) (hc : w.cell? ⟨b, o, none⟩ = some v) : mb ≠ b := by
  rintro rfl
  obtain ⟨D, ⟨es, clock, hb, _⟩, _⟩ := h
  simp [World.cell?, hb] at hc
/-- The place of a number's block. -/
def placeL (L : Lay) (n : Int) : Plc := match atL L n with
  | none => Plc.zero
  | some i => ⟨(getL L n).getD Bk.zero, i⟩
theorem place_at {L : Lay} (hG : GoodL L) {i : Nat} {b : Bk} (h : At L i b) : placeL L b.id = ⟨b, i⟩ := by
  unfold placeL; rw [atL_of hG h, getL_at hG h]; rfl
theorem place_none {L : Lay} {n : Int} (h : getL L n = none) : placeL L n = Plc.zero := by
  unfold placeL; rw [atL_of_none (getL_none h)]
/-- 'v, ok := m[k]'. -/
theorem Tm.look {w : World} {mb : Nat} {L : Lay} (h : Tm w mb L) {n : Int} (hn : i64 n) :
    (Instr.lookup 142 (.map (some mb)) (.int .i64 n) true).run Tryz.prog w = .ok (.tuple #[(placeL L n).val, .bool (getL L n).isSome]) w := by
  obtain ⟨D, h, hI, hG⟩ := h
  obtain ⟨v, ps, hrun, hv⟩ := h.look_ok keyK Tryz.underlying142 (zeroP w) (elP_mk Plc.zero) (key_mk hn)
  rw [hrun, hI.has n hn]
  obtain ⟨y, rfl, hy⟩ := elP_inv hv
  have hy1 : D.atKey (kl n) Plc.zero.dat = y.dat := congrArg Prod.fst hy
  cases hg : getL L n with
  | none =>
    rw [Maps.atKey_of_not_has (by rw [hI.has n hn, hg]; rfl)] at hy1
    rw [place_none hg, dat_inj hy1]
  | some b =>
    obtain ⟨⟨i, hi⟩, rfl⟩ := getL_some hg
    rw [hI.at_ i b hi] at hy1
    rw [place_at hG hi, dat_inj hy1]
/-- 'm[k]'. -/
theorem Tm.look1 {w : World} {mb : Nat} {L : Lay} (h : Tm w mb L) {n : Int} (hn : i64 n) :
    (Instr.lookup 142 (.map (some mb)) (.int .i64 n) false).run Tryz.prog w = .ok (placeL L n).val w := by
  obtain ⟨D, h, hI, hG⟩ := h
  obtain ⟨v, ps, hrun, hv⟩ := h.lookup keyK Tryz.underlying142 (zeroP w) (elP_mk Plc.zero) (key_mk hn)
  rw [hrun]
  obtain ⟨y, rfl, hy⟩ := elP_inv hv
  have hy1 : D.atKey (kl n) Plc.zero.dat = y.dat := congrArg Prod.fst hy
  cases hg : getL L n with
  | none =>
    rw [Maps.atKey_of_not_has (by rw [hI.has n hn, hg]; rfl)] at hy1
    rw [place_none hg, dat_inj hy1]
  | some b =>
    obtain ⟨⟨i, hi⟩, rfl⟩ := getL_some hg
    rw [hI.at_ i b hi] at hy1
    rw [place_at hG hi, dat_inj hy1]
/-- 'm[k] = v'. -/
theorem Tm.put {w : World} {mb : Nat} {L : Lay} (h : Tm w mb L) {b : Bk} (hb : refE b 1 = 0) {i : Nat} (hi : Fre L i) :
    ∃ w', (Instr.mapUpdate 142 (.map (some mb)) (.int .i64 b.id) (⟨b, i⟩ : Plc).val).run Tryz.prog w = .ok () w' ∧ Tm w' mb (putL L i b) ∧ w.mapTurned w' mb := by
  obtain ⟨D, h, hI, hG⟩ := h
  have hle := cnt_le L
  have hhi := hG.hi
  obtain ⟨w', hrun, h', ht⟩ := h.store keyK Tryz.underlying142 (by unfold maxLen; omega) (key_mk (Bk.id64 hb)) (elP_mk ⟨b, i⟩)
  have hI' := hI.put (h.tidy keyK) hG hb hi
  exact ⟨w', hrun, ⟨_, hI'.size ▸ tight h', hI', hG.put hi.lt hb⟩, ht⟩
/-- 'delete(m, k)'. -/
theorem Tm.del {w : World} {mb : Nat} {L : Lay} (h : Tm w mb L) {n : Int} (hn : i64 n) (ty : TypeId) :
    ∃ w', (Builtin.delete_ #[142, 3] ty #[.map (some mb), .int .i64 n]).run Tryz.prog w = .ok (.tuple #[]) w' ∧ Tm w' mb (woL L n) ∧ w.mapTurned w' mb := by
  obtain ⟨D, h, hI, hG⟩ := h
  obtain ⟨w', hrun, h', hw⟩ := h.drop keyK Tryz.underlying142 (key_mk hn) ty
  have hI' := hI.del (h.tidy keyK) hG hn
  exact ⟨w', hrun, ⟨_, hI'.size ▸ tight h', hI', hG.wo n⟩, hw⟩
/-- 'len(m)'. -/
theorem Tm.len {w : World} {mb : Nat} {L : Lay} (h : Tm w mb L) (ty : TypeId) : (Builtin.len_ #[142] ty #[.map (some mb)]).run Tryz.prog w = .ok (.int .i64 (cnt L)) w := by
  obtain ⟨D, h, hI, _⟩ := h
  rw [h.len Tryz.underlying142 ty, hI.size]

/-! ### a range over it -/
/-- Is the block of that number still to come? -/
@[reducible] def lf (left : Lit → Bool) (x : Bk) : Bool := left (kl x.id)
/-- The range is under way. -/
def Rg (w : World) (mb r n : Nat) (L : Lay) (left : Lit → Bool) (c : Nat) : Prop :=
  ∃ D, w.ranges Tryz.prog 3 elP mb r n D left c ∧ Is D L ∧ GoodL L ∧ ∀ kl, left kl = true → Maps.has D kl = true
theorem Rg.left_eq {w : World} {mb r n : Nat} {L : Lay} {left : Lit → Bool} {c : Nat} (h : Rg w mb r n L left c) : w.rangeLeft mb r = c := by obtain ⟨D, h, _⟩ := h; exact h.left_eq
theorem Rg.good {w : World} {mb r n : Nat} {L : Lay} {left : Lit → Bool} {c : Nat} (h : Rg w mb r n L left c) : GoodL L := by obtain ⟨D, _, _, h, _⟩ := h; exact h
theorem Rg.lt {w : World} {mb r n : Nat} {L : Lay} {left : Lit → Bool} {c : Nat} (h : Rg w mb r n L left c) : r < w.heap.size := by obtain ⟨D, h, _⟩ := h; exact h.lt
theorem Rg.kept {w w' : World} {mb r n : Nat} {L : Lay} {left : Lit → Bool} {c : Nat} {row : Option Nat} (h : Rg w mb r n L left c) (hg : w.grownBy w' row) (h1 : some mb ≠ row) (h2 : some r ≠ row) : Rg w' mb r n L left c := by
  obtain ⟨D, h, k⟩ := h
  exact ⟨D, h.kept hg h1 h2, k⟩
/-- A block of cells is no iterator. -/
theorem Rg.ne_cells {w : World} {mb r n : Nat} {L : Lay} {left : Lit → Bool} {c b o : Nat} {v : Value} (h : Rg w mb r n L left c) (hc : w.cell? ⟨b, o, none⟩ = some v) : r ≠ b ∧ mb ≠ b := by
  obtain ⟨D, ⟨es, clock, since, seen, c0, hb, _, _, _, hr, _⟩, _⟩ := h
  constructor
  · rintro rfl; simp [World.cell?, hr] at hc
  · rintro rfl; simp [World.cell?, hb] at hc

section
variable {P : Program} (w : World) {ops : Array Oper} {rest : List Oper} {o : Oper} {a : Act} {Q : Exit → Act → World → Prop}
/-- 'range m'. -/
theorem wpList_range_pl (hg : o.guard = none) (m : Operand) (hop : o.op = Op.range 142 m) (mb : Nat) (L : Lay) (hm : a.eval m = .map (some mb)) (h : Tm w mb L)
    (hK : ∀ w' left c, Rg w' mb w.heap.size (cnt L) L left c → (∀ i b, At L i b → lf left b = true) → w.grownBy w' none → w'.heap.size = w.heap.size + 1 → wpList Tryz.prog ops Q rest (a.put o.dst (.pointer (some ⟨w.heap.size, 0, none⟩))) w') :
    wpList Tryz.prog ops Q (o :: rest) a w := by
  obtain ⟨D, h, hI, hG⟩ := h
  refine wpList_range_own w hg m 142 hop 3 144 keyK Tryz.underlying142 elP mb (cnt L) D hm h fun w' h1 h2 h3 => hK w' _ _ ⟨D, h1, hI, hG, fun _ h => h⟩ (fun i b hb => ?_) h2 h3
  show Maps.has D (kl b.id) = true
  rw [hI.has _ (Bk.id64 (hG.ok i b hb)), getL_at hG hb]; rfl
/-- The step. -/
theorem wpList_next_pl (hg : o.guard = none) (it : Operand) (hop : o.op = Op.next it false) (mb r n : Nat) (L : Lay) (left : Lit → Bool) (c : Nat) (hit : a.eval it = .pointer (some ⟨r, 0, none⟩)) (h : Rg w mb r n L left c)
    (hDone : (∀ kl, left kl = false) → wpList Tryz.prog ops Q rest (a.put o.dst (.tuple #[.bool false])) w)
    (hMore : ∀ (i : Nat) (y : Bk) (w' : World) (left' : Lit → Bool) (c' : Nat), At L i y → lf left y = true → (∀ j x, At L j x → j ≠ i → lf left' x = lf left x) → Rg w' mb r n L left' c' → c' < c → w.grownBy w' (some r) → w'.heap.size = w.heap.size →
      (Instr.entry (.pointer (some ⟨r, 0, none⟩))).run Tryz.prog w' = .ok (.tuple #[.int .i64 y.id, (⟨y, i⟩ : Plc).val]) w' → wpList Tryz.prog ops Q rest (a.put o.dst (.tuple #[.bool true, .int .i64 y.id, (⟨y, i⟩ : Plc).val])) w') :
    wpList Tryz.prog ops Q (o :: rest) a w := by
  obtain ⟨D, h, hI, hG, hL⟩ := h
  refine wpList_next_ranges w hg it hop 3 keyK elP (fun p : Int => .int .i64 p) Plc.val (fun key kl hk => by obtain ⟨n, rfl, _⟩ := key_inv hk; exact ⟨n, rfl⟩) (fun v y hv => by obtain ⟨x, rfl, _⟩ := elP_inv hv; exact ⟨x, rfl⟩) mb r n D left c hit h (fun _ hl => hDone hl) ?_
  intro p cc k0 y w' cnt' hkey hlk hv hat hrg hlt hgr hsz hen
  obtain ⟨n', e1, e2, hn⟩ := key_inv hkey
  simp at e1
  subst e1
  subst e2
  have hy : (cc.dat, ([] : List MemPlace)) = y := by rw [elP_mk] at hv; exact Option.some.inj hv
  subst hy
  obtain ⟨i, b, hb, rfl, rfl⟩ := hI.found hn (hL _ hlk) hat
  refine hMore i b w' _ cnt' hb hlk (fun j x hx hne => ?_) ⟨D, hrg, hI, hG, fun z hz => hL z ?_⟩ hlt hgr hsz hen
  · show (left _ && !(kl x.id).sameKey (kl b.id)) = _
    rw [Maps.sameKey_ne (fun e => hne (hG.un j i x b hx hb (kl_inj e)))]
    simp
  · simp at hz; exact hz.1
end
end Go.Proofs.YtmmpknfkncgjpaaGreatDoor
