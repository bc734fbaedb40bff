/-
  A map of alarms by node and tag, as the model has it: what it reads as, and a list of alarms in the document's order.
-/
import Derived.Test.YtcanagecdniiiaaPure
import Derived.Maps.RangeWalk
import Derived.DeepKeys5
import Derived.KernelRfl
namespace Go.Proofs.Ytcanagecdniiiaa
open Go.RowKit Go.WideShapes
open Go.Maps (Keyed)

theorem laidOutK : laidOutB Try.prog = true := by kernel_rfl
theorem ownK : ownKnob Try.prog.godebug = none := by kernel_rfl

/-! ### keys -/
theorem keyK : Keyed Try.prog 59 :=
  Keyed.of_law (deep_law_laid laidOutK (m := 3) (by omega) (of_decide_eq_true (by kernel_rfl)) (by kernel_rfl) (by rw [Try.underlying59]))
/-- A number that an int may be. -/
@[reducible] def i64 (x : Int) : Prop := (Lit.int .i64 x).wf = true
theorem i64_iff (x : Int) : i64 x ↔ (-9223372036854775808 ≤ x ∧ x ≤ 9223372036854775807) := by
  unfold i64; simp [Lit.wf, IntKind.min, IntKind.max, IntKind.signed, IntKind.bits]
@[reducible] def keyV (n t : Int) : Value := .agg #[.int .i64 n, .int .i64 t]
/-- What a key reads as. -/
def kl (n t : Int) : Lit := .string (keyBytes [.int .i64 n, .int .i64 t])
theorem typesN : Try.prog.types.size = (Try.prog.types.size - 1) + 1 := by
  have : 0 < Try.prog.types.size := of_decide_eq_true (by kernel_rfl)
  omega
theorem keyTypeK : Try.prog.keyType 59 = true := by kernel_rfl
theorem cellsK : Try.prog.cellsOf 59 = 2 := by kernel_rfl
theorem cellsI : Try.prog.cellsOf 3 = 1 := by kernel_rfl
def litI : Value → Option (List Lit)
  | .int q n => if q = .i64 ∧ (Lit.int .i64 n).wf = true then some [.int .i64 n] else none
  | _ => none
theorem litI_inv {v : Value} {a : List Lit} (h : litI v = some a) : ∃ n, v = .int .i64 n ∧ a = [.int .i64 n] ∧ i64 n := by
  unfold litI at h
  split at h
  · split at h
    · rename_i hc
      obtain ⟨rfl, hw⟩ := hc
      cases h
      exact ⟨_, rfl, rfl, hw⟩
    · cases h
  · cases h
theorem lits_int (d : Nat) (v : Value) : Try.prog.keyLits (d + 1) 3 [v] = litI v := by
  unfold Program.keyLits
  rw [Try.underlying3]
  cases v <;> rfl
theorem lits_key (d : Nat) (v u : Value) : Try.prog.keyLits (d + 1 + 1) 59 [v, u] = (litI v).bind fun a => (litI u).bind fun b => some (a ++ b) := by
  unfold Program.keyLits
  rw [Try.underlying59]
  simp only [cellsK]
  rw [if_pos (by simp)]
  simp only [List.mapM_cons, List.mapM_nil, cellsI, List.drop_zero, List.drop_succ_cons, List.take_succ_cons, List.take_zero, lits_int]
  cases litI v <;> cases litI u <;> simp
theorem key_mk {n t : Int} (hn : i64 n) (ht : i64 t) : keyOf Try.prog 59 (keyV n t) = some (kl n t) := by
  unfold keyOf
  rw [Try.underlying59]
  have hf : (keyV n t).formed Try.prog 59 = true := by simp [Value.formed, Try.underlying59, cellsK]
  simp only [keyTypeK, hf, Bool.and_self, if_true]
  have e : (keyV n t).cells.toList = [.int .i64 n, .int .i64 t] := rfl
  rw [e, typesN, lits_key]
  have hn' : litI (.int .i64 n) = some [.int .i64 n] := if_pos ⟨rfl, hn⟩
  have ht' : litI (.int .i64 t) = some [.int .i64 t] := if_pos ⟨rfl, ht⟩
  rw [hn', ht']
  rfl
theorem key_inv {v : Value} {l : Lit} (h : keyOf Try.prog 59 v = some l) : ∃ n t, v = keyV n t ∧ l = kl n t ∧ i64 n ∧ i64 t := by
  unfold keyOf at h
  rw [Try.underlying59] at h
  simp only [keyTypeK, Bool.true_and] at h
  split at h
  · rename_i hf
    have key : ∀ cs : List Value, cs.length = 2 → (Try.prog.keyLits (Try.prog.types.size + 1) 59 cs).map (fun ls => Lit.string (keyBytes ls)) = some l → ∃ n t, cs = [.int .i64 n, .int .i64 t] ∧ l = kl n t ∧ i64 n ∧ i64 t := by
      intro cs hcs hl
      match cs, hcs with
      | [a, b], _ =>
        rw [typesN, lits_key, Option.map_eq_some_iff] at hl
        obtain ⟨ls, hls, rfl⟩ := hl
        obtain ⟨la, h1, h2⟩ := Option.bind_eq_some_iff.1 hls
        obtain ⟨lb, h3, h4⟩ := Option.bind_eq_some_iff.1 h2
        obtain ⟨n, rfl, rfl, w1⟩ := litI_inv h1
        obtain ⟨t, rfl, rfl, w2⟩ := litI_inv h3
        cases h4
        exact ⟨n, t, rfl, rfl, w1, w2⟩
    unfold Value.formed at hf
    cases v <;> simp [Try.underlying59, cellsK] at hf
    rename_i cs
    obtain ⟨n, t, h1, h2, h3, h4⟩ := key cs.toList (by simpa using hf) h
    exact ⟨n, t, by congr 1; exact Array.toList_inj.1 h1, h2, h3, h4⟩
  · cases h
theorem kl_inj {n t n' t' : Int} (h1 : i64 n) (h2 : i64 t) (h3 : i64 n') (h4 : i64 t') (h : kl n t = kl n' t') : n = n' ∧ t = t' := by
  have := keyK.inj (key_mk h1 h2) (h ▸ key_mk h3 h4)
  simp at this
  exact this
theorem kl_key {n t : Int} (h1 : i64 n) (h2 : i64 t) : WideAt.IsKeyLit (kl n t) := keyK.key (key_mk h1 h2)
theorem Al.ok.n64 {x : Al} (h : x.ok) : i64 x.n := by rw [i64_iff]; obtain ⟨h1, h2, h3⟩ := h; omega
theorem Al.ok.t64 {x : Al} (h : x.ok) : i64 x.t := by rw [i64_iff]; obtain ⟨h1, h2, h3⟩ := h; omega

/-! ### elements -/
@[reducible] def Al.dat (x : Al) : DataW Unit := .agg [.lit (.int .i64 x.n), .lit (.int .i64 x.a), .lit (.int .i64 x.t)]
theorem dat_inj {x y : Al} (h : x.dat = y.dat) : x = y := by
  simp at h
  exact Al.ext' h.1 h.2.1 h.2.2
/-- How an element reads. -/
def elA : Value → Option (DataW Unit × List MemPlace)
  | .agg cs => match cs.toList with
    | [.int .i64 n, .int .i64 a, .int .i64 t] => some (Al.dat ⟨n, a, t⟩, [])
    | _ => none
  | _ => none
theorem elA_mk (x : Al) : elA x.val = some (x.dat, []) := rfl
theorem elA_inv {v : Value} {z : DataW Unit × List MemPlace} (h : elA v = some z) : ∃ x : Al, v = x.val ∧ z = (x.dat, []) := by
  unfold elA at h
  split at h
  · rename_i cs
    split at h
    · rename_i n a t hc
      cases h
      exact ⟨⟨n, a, t⟩, by congr 1; exact Array.toList_inj.1 hc, rfl⟩
    · cases h
  · cases h
theorem zeroA (w : World) : (zeroValue 31).run Try.prog w = .ok Al.zero.val w := by kernel_rfl

/-! ### what the map reads as, and the list -/
structure Is (D : DataW Unit) (l : List Al) : Prop where
  has : ∀ n t, i64 n → i64 t → Maps.has D (kl n t) = hasA l n t
  at_ : ∀ x ∈ l, ∀ z, D.atKey (kl x.n x.t) z = x.dat
  size : Maps.size D = l.length

theorem is_nil : Is (.map []) [] := ⟨fun _ _ _ _ => rfl, fun x hx => by simp at hx, rfl⟩
theorem hasA_ins {l : List Al} {x : Al} {n t : Int} : hasA (ins x l) n t = (decide (x.is n t) || hasA l n t) := by
  have : (ins x l).any (fun y => decide (y.is n t)) = (x :: l).any (fun y => decide (y.is n t)) := (ins_perm x l).any_eq
  unfold hasA
  rw [this, List.any_cons]
theorem hasA_wo_other {l : List Al} {n t n' t' : Int} (h : ¬ (n' = n ∧ t' = t)) : hasA (wo l n t) n' t' = hasA l n' t' := by
  cases hh : hasA l n' t'
  · exact hasA_false.2 fun x hx => hasA_false.1 hh x (mem_wo.1 hx).1
  · obtain ⟨x, hx, hi⟩ := hasA_iff.1 hh
    exact hasA_iff.2 ⟨x, mem_wo.2 ⟨hx, fun hj => h ⟨hi.1.symm.trans hj.1, hi.2.symm.trans hj.2⟩⟩, hi⟩
theorem Is.put {D : DataW Unit} {l : List Al} (h : Is D l) (hT : Maps.Tidy D) (hG : Good l) {x : Al} (hx : x.ok) : Is (D.put (kl x.n x.t) x.dat) (ins x (wo l x.n x.t)) := by
  have n1 := hx.n64
  have n2 := hx.t64
  refine ⟨fun n t hn ht => ?_, fun y hy z => ?_, ?_⟩
  · rw [hasA_ins]
    by_cases e : n = x.n ∧ t = x.t
    · obtain ⟨rfl, rfl⟩ := e
      rw [Maps.has_put_same hT.isMap (kl_key n1 n2), show decide (x.is x.n x.t) = true from decide_eq_true ⟨rfl, rfl⟩]; rfl
    · rw [Maps.has_put_other (fun h' => e (kl_inj hn ht n1 n2 h')), h.has n t hn ht, hasA_wo_other e, show decide (x.is n t) = false from decide_eq_false (fun hh => e ⟨hh.1.symm, hh.2.symm⟩)]; rfl
  · rcases mem_ins.1 hy with rfl | hy
    · exact Maps.atKey_put_same hT.isMap (kl_key n1 n2) _ _
    · obtain ⟨hm, hne⟩ := mem_wo.1 hy
      have hok := hG.all y hm
      rw [Maps.atKey_put_other (fun h' => hne (kl_inj hok.n64 hok.t64 n1 n2 h'))]
      exact h.at_ y hm z
  · rw [Maps.size_put hT, h.has _ _ n1 n2, h.size, ins_length]
    have := wo_length hG x.n x.t
    split at this <;> simp_all
theorem Is.del {D : DataW Unit} {l : List Al} (h : Is D l) (hT : Maps.Tidy D) (hG : Good l) {n t : Int} (hn : i64 n) (ht : i64 t) : Is (D.del (kl n t)) (wo l n t) := by
  refine ⟨fun n' t' hn' ht' => ?_, fun y hy z => ?_, ?_⟩
  · by_cases e : n' = n ∧ t' = t
    · obtain ⟨rfl, rfl⟩ := e
      rw [Maps.has_del_same, hasA_wo]
    · rw [Maps.has_del_other (fun h' => e (kl_inj hn' ht' hn ht h')), h.has n' t' hn' ht', hasA_wo_other e]
  · obtain ⟨hm, hne⟩ := mem_wo.1 hy
    have hok := hG.all y hm
    rw [Maps.atKey_del_other (fun h' => hne (kl_inj hok.n64 hok.t64 hn ht h'))]
    exact h.at_ y hm z
  · have h1 := Maps.size_del (D := D) (k := kl n t) hT
    have h2 := wo_length hG n t
    rw [h.has n t hn ht, h.size] at h1
    split at h1 <;> simp_all <;> omega
/-- What stands at a key is the alarm of that node and tag. -/
theorem Is.found {D : DataW Unit} {l : List Al} (h : Is D l) {n t : Int} (hn : i64 n) (ht : i64 t) {y : Al} (hh : Maps.has D (kl n t) = true) (ha : ∀ z, D.atKey (kl n t) z = y.dat) : y ∈ l ∧ y.n = n ∧ y.t = t := by
  rw [h.has n t hn ht] at hh
  obtain ⟨x, hx, rfl, rfl⟩ := hasA_iff.1 hh
  have := h.at_ x hx .nil
  rw [ha] at this
  obtain rfl := dat_inj this
  exact ⟨hx, rfl, rfl⟩

/-- Block mb is a map of the alarms l. -/
def Tm (w : World) (mb : Nat) (l : List Al) : Prop := ∃ D, w.ownsMap Try.prog 59 elA mb l.length D ∧ Is D l ∧ Good l
theorem tight {w : World} {b n : Nat} {D : DataW Unit} (h : w.ownsMap Try.prog 59 elA b n D) : w.ownsMap Try.prog 59 elA b (Maps.size D) D := by
  obtain ⟨es, clock, hb, F, hs, rfl⟩ := h
  exact ⟨es, clock, hb, F, by simp [Maps.size, length_sorted], rfl⟩
theorem Tm.lt {w : World} {mb : Nat} {l : List Al} (h : Tm w mb l) : mb < w.heap.size := by obtain ⟨D, h, _⟩ := h; exact h.lt
theorem Tm.good {w : World} {mb : Nat} {l : List Al} (h : Tm w mb l) : Good l := by obtain ⟨D, _, _, h⟩ := h; exact h
theorem Tm.kept {w w' : World} {mb : Nat} {row : Option Nat} {l : List Al} (h : Tm w mb l) (hg : w.grownBy w' row) (hne : some mb ≠ row) : Tm w' mb l := by
  obtain ⟨D, h, k⟩ := h
  exact ⟨D, h.kept hg hne, k⟩
theorem Tm.below {w w' : World} {mb : Nat} {l : List Al} (h : Tm w mb l) (hb : Below w.heap.size w w') : Tm w' mb l := h.kept (grown_of_below hb none) (by simp)
theorem Tm.made (w : World) : Tm (w.alloc (.map #[] 0)) w.heap.size [] := ⟨.map [], World.ownsMap_made w _ _ _, is_nil, Good.nil⟩
/-- A block of cells is no map. -/
theorem Tm.ne_cells {w : World} {mb b o : Nat} {v : Value} {l : List Al} (h : Tm w mb l) (hc : w.cell? ⟨b, o, none⟩ = some v) : mb ≠ b := by
  rintro rfl
  obtain ⟨D, ⟨es, clock, hb, _⟩, _⟩ := h
  simp [World.cell?, hb] at hc

/-- 'v, ok := m[k]'. -/
def lookA (l : List Al) (n t : Int) : Al := (l.find? fun x => decide (x.is n t)).getD Al.zero
theorem Tm.look {w : World} {mb : Nat} {l : List Al} (h : Tm w mb l) {n t : Int} (hn : i64 n) (ht : i64 t) :
    (Instr.lookup 55 (.map (some mb)) (keyV n t) true).run Try.prog w = .ok (.tuple #[(lookA l n t).val, .bool (hasA l n t)]) w := by
  obtain ⟨D, h, hI, hG⟩ := h
  obtain ⟨v, ps, hrun, hv⟩ := h.look_ok keyK Try.underlying55 (zeroA w) (elA_mk Al.zero) (key_mk hn ht)
  rw [hrun, hI.has n t hn ht]
  obtain ⟨y, rfl, hy⟩ := elA_inv hv
  have hy1 : D.atKey (kl n t) Al.zero.dat = y.dat := congrArg Prod.fst hy
  congr 4
  cases hh : hasA l n t
  · have : (l.find? fun x => decide (x.is n t)) = none := List.find?_eq_none.2 (fun x hx => by simpa using hasA_false.1 hh x hx)
    rw [Maps.atKey_of_not_has (by rw [hI.has n t hn ht]; exact hh)] at hy1
    unfold lookA
    rw [this, dat_inj hy1]; rfl
  · have hs : (l.find? fun x => decide (x.is n t)).isSome = true := List.find?_isSome.2 (by obtain ⟨x, hx, hi⟩ := hasA_iff.1 hh; exact ⟨x, hx, by simpa using hi⟩)
    obtain ⟨x, hx⟩ := Option.isSome_iff_exists.1 hs
    have hm := List.mem_of_find?_eq_some hx
    have hi := List.find?_some hx
    simp only [decide_eq_true_eq] at hi
    obtain ⟨rfl, rfl⟩ := hi
    rw [hI.at_ x hm] at hy1
    unfold lookA
    rw [hx, dat_inj hy1]; rfl
/-- 'm[k] = v'. -/
theorem Tm.put {w : World} {mb : Nat} {l : List Al} (h : Tm w mb l) {x : Al} (hx : x.ok) (hG : Good (ins x (wo l x.n x.t))) :
    ∃ w', (Instr.mapUpdate 55 (.map (some mb)) (keyV x.n x.t) x.val).run Try.prog w = .ok () w' ∧ Tm w' mb (ins x (wo l x.n x.t)) ∧ w.mapTurned w' mb := by
  obtain ⟨D, h, hI, hG0⟩ := h
  have hle := hG0.le
  obtain ⟨w', hrun, h', ht⟩ := h.store keyK Try.underlying55 (by unfold maxLen; omega) (key_mk hx.n64 hx.t64) (elA_mk x)
  have hI' := hI.put (h.tidy keyK) hG0 hx
  exact ⟨w', hrun, ⟨_, hI'.size ▸ tight h', hI', hG⟩, ht⟩
/-- 'delete(m, k)'. -/
theorem Tm.del {w : World} {mb : Nat} {l : List Al} (h : Tm w mb l) {n t : Int} (hn : i64 n) (ht : i64 t) (ty : TypeId) :
    ∃ w', (Builtin.delete_ #[55, 59] ty #[.map (some mb), keyV n t]).run Try.prog w = .ok (.tuple #[]) w' ∧ Tm w' mb (wo l n t) ∧ w.mapTurned w' mb := by
  obtain ⟨D, h, hI, hG⟩ := h
  obtain ⟨w', hrun, h', hw⟩ := h.drop keyK Try.underlying55 (key_mk hn ht) ty
  have hI' := hI.del (h.tidy keyK) hG hn ht
  exact ⟨w', hrun, ⟨_, hI'.size ▸ tight h', hI', hG.wo n t⟩, hw⟩
/-- 'len(m)'. -/
theorem Tm.len {w : World} {mb : Nat} {l : List Al} (h : Tm w mb l) (ty : TypeId) : (Builtin.len_ #[55] ty #[.map (some mb)]).run Try.prog w = .ok (.int .i64 l.length) w := by
  obtain ⟨D, h, hI, _⟩ := h
  rw [h.len Try.underlying55 ty, hI.size]
end Go.Proofs.Ytcanagecdniiiaa
