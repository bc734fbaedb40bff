/-
  errors.As and errors.Unwrap at a Fault of package field, by contracts (Go's own text of both is walked): the target is a *Fault: it is found at once; the target is an interface that no Fault has, and nothing lies under the Fault: it is not found.

  errors.As of a Fault, the target a *Fault: it is found at once, and the target is set; four new blocks.

  errors.As of a Fault with nothing under it, the target an interface that no Fault has: it is not found; three new blocks.

  What package field says of errors, by contracts: own, joined and errors.Unwrap at a Fault.
-/
import Derived.Test.YtmmpknfkncgjpaaGreatDoorProg
import Derived.WalkKit
import Derived.LaidEql
import Derived.Stop.Asserts
import Derived.RowKitTokens
import Derived.Handy
namespace Go.Proofs.YtmmpknfkncgjpaaGreatDoor
open Go.RowKit Go.Extern.Stop Go.Stop Go.Extern

/- F: *field.Fault; P: a pointer to that; R: reflectlite's rtype; U: the interface of several errors; Q: a pointer to it. -/
theorem valueOfP (t : Addr) (w : World) : (ReflectliteValue.unpack (.iface 271 (.pointer (some t)))).run Tryz.prog w
    = .ok (.agg #[.pointer (some ⟨3, 271, none⟩), .pointer (some ⟨w.heap.size, 0, none⟩), .int .u64 150]) (w.alloc (.cells #[.pointer (some t)] 271)) := by kernel_rfl
theorem valueOfQ (t : Addr) (w : World) : (ReflectliteValue.unpack (.iface 273 (.pointer (some t)))).run Tryz.prog w
    = .ok (.agg #[.pointer (some ⟨3, 273, none⟩), .pointer (some ⟨w.heap.size, 0, none⟩), .int .u64 150]) (w.alloc (.cells #[.pointer (some t)] 273)) := by kernel_rfl
theorem valueOfF (e : Addr) (w : World) : (ReflectliteValue.unpack (.iface 213 (.pointer (some e)))).run Tryz.prog w
    = .ok (.agg #[.pointer (some ⟨3, 213, none⟩), .pointer (some ⟨w.heap.size, 0, none⟩), .int .u64 150]) (w.alloc (.cells #[.pointer (some e)] 213)) := by kernel_rfl
theorem typeP (a : Addr) (w : World) : (ReflectliteValue.methodAny (ReflectliteValue.valueError "reflectlite.Value.Type" 0) (fun t _ _ _ => ReflectliteType.toType t) #[.agg #[.pointer (some ⟨3, 271, none⟩), .pointer (some a), .int .u64 150]]).run Tryz.prog w
    = .ok (.iface 256 (.agg #[.pointer (some ⟨3, 271, none⟩)])) w := by kernel_rfl
theorem typeQ (a : Addr) (w : World) : (ReflectliteValue.methodAny (ReflectliteValue.valueError "reflectlite.Value.Type" 0) (fun t _ _ _ => ReflectliteType.toType t) #[.agg #[.pointer (some ⟨3, 273, none⟩), .pointer (some a), .int .u64 150]]).run Tryz.prog w
    = .ok (.iface 256 (.agg #[.pointer (some ⟨3, 273, none⟩)])) w := by kernel_rfl
theorem kindP (w : World) : ((ReflectliteType.abiMethod fun t => Functor.map (fun a : Nat => Value.int IntKind.u8 (a : Int)) (Rtype.kind t)) #[.pointer (some ⟨3, 271, none⟩)]).run Tryz.prog w = .ok (.int .u8 22) w := by kernel_rfl
theorem kindQ (w : World) : ((ReflectliteType.abiMethod fun t => Functor.map (fun a : Nat => Value.int IntKind.u8 (a : Int)) (Rtype.kind t)) #[.pointer (some ⟨3, 273, none⟩)]).run Tryz.prog w = .ok (.int .u8 22) w := by kernel_rfl
theorem kindF (w : World) : ((ReflectliteType.abiMethod fun t => Functor.map (fun a : Nat => Value.int IntKind.u8 (a : Int)) (Rtype.kind t)) #[.pointer (some ⟨3, 213, none⟩)]).run Tryz.prog w = .ok (.int .u8 22) w := by kernel_rfl
theorem kindU (w : World) : ((ReflectliteType.abiMethod fun t => Functor.map (fun a : Nat => Value.int IntKind.u8 (a : Int)) (Rtype.kind t)) #[.pointer (some ⟨3, 263, none⟩)]).run Tryz.prog w = .ok (.int .u8 20) w := by kernel_rfl
theorem elemP (w : World) : (ReflectliteType.method ReflectliteType.elem #[.agg #[.pointer (some ⟨3, 271, none⟩)]]).run Tryz.prog w = .ok (.iface 256 (.agg #[.pointer (some ⟨3, 213, none⟩)])) w := by kernel_rfl
theorem elemQ (w : World) : (ReflectliteType.method ReflectliteType.elem #[.agg #[.pointer (some ⟨3, 273, none⟩)]]).run Tryz.prog w = .ok (.iface 256 (.agg #[.pointer (some ⟨3, 263, none⟩)])) w := by kernel_rfl
theorem implementsF (w : World) : (ReflectliteType.relation "Implements" ReflectliteType.implements_ #[.agg #[.pointer (some ⟨3, 213, none⟩)], .iface 256 (.agg #[.pointer (some ⟨3, 93, none⟩)])]).run Tryz.prog w = .ok (.bool true) w := by kernel_rfl
theorem typeOfF (v : Value) (w : World) : (ReflectliteType.typeOf #[.iface 213 v]).run Tryz.prog w = .ok (.iface 256 (.agg #[.pointer (some ⟨3, 213, none⟩)])) w := by kernel_rfl
theorem assignableFF (w : World) : (ReflectliteType.relation "AssignableTo" ReflectliteType.assignableTo #[.agg #[.pointer (some ⟨3, 213, none⟩)], .iface 256 (.agg #[.pointer (some ⟨3, 213, none⟩)])]).run Tryz.prog w = .ok (.bool true) w := by kernel_rfl
theorem descU : (Tryz.prog.info? 263).map (·.desc) = some (.interface #[("Unwrap", 264)]) := by kernel_rfl
theorem noPackMethods_ok {P : Program} {t : TypeId} (what : String) (w : World) (h : P.methodsOfAPack P.depth t = false) : (Rtype.noPackMethods what t).run P w = .ok () w := by
  simp [Rtype.noPackMethods, h]
theorem typeInfo_ok {P : Program} {t : TypeId} {i : TypeInfo} (w : World) (h : P.info? t = some i) : (typeInfo t).run P w = .ok i w := by
  simp [typeInfo, h]
theorem under_ok {P : Program} {t : TypeId} {i : TypeInfo} (w : World) (h : P.info? t = some i) (hn : ∀ q u, i.desc ≠ .named q u) : (Rtype.under t).run P w = .ok (t, i) w := by
  unfold Rtype.under
  simp only [Sem.run_bind, typeInfo_ok w h, Result.andThen]
  rfl
theorem implements_lacks {P : Program} {T V e : TypeId} {want : Array (String × TypeId)} (w : World) (dT : (P.info? T).map (·.desc) = some (.interface want)) (dV : (P.info? V).map (·.desc) = some (.pointer e))
    (p1 : P.methodsOfAPack P.depth V = false) (p2 : P.methodsOfAPack P.depth T = false) (hl : (P.info? V).map (fun i => (lacking want i.methods).isEmpty) = some false) : (Rtype.implements T V).run P w = .ok false w := by
  obtain ⟨iT, hT, dT'⟩ := Option.map_eq_some_iff.1 dT
  obtain ⟨iV, hV, dV'⟩ := Option.map_eq_some_iff.1 dV
  have hl' : lacking want iV.methods ≠ [] := by
    rw [hV] at hl; simp only [Option.map_some, Option.some.injEq] at hl
    intro h; rw [h] at hl; cases hl
  obtain ⟨m, hm⟩ := missingMethod_some hl'
  have uT := under_ok w hT (fun q u h => by rw [dT'] at h; cases h)
  have uV := under_ok w hV (fun q u h => by rw [dV'] at h; cases h)
  have tV := typeInfo_ok w hV
  have n1 := fun s => noPackMethods_ok s w p1
  have n2 := fun s => noPackMethods_ok s w p2
  unfold Rtype.implements
  simp only [Sem.run_bind, n1, n2, uT, uV, Result.andThen, dT', dV', tV, hm, Sem.run_pure, Option.isNone_some]
theorem relationB {P : Program} {what : String} {f : TypeId → TypeId → Sem Bool} {r u : Value} {t : TypeId} {x y : TypeId} {b : Bool} (w : World) (hu : (ReflectliteType.ofRtype u).run P w = .ok x w) (hr : (ReflectliteType.ofRtype r).run P w = .ok y w) (hf : (f x y).run P w = .ok b w) :
    (ReflectliteType.relation what f #[r, .iface t u]).run P w = .ok (.bool b) w := by
  have e : ReflectliteType.relation what f #[r, .iface t u] = (do pure (.bool (← f (← ReflectliteType.ofRtype u) (← ReflectliteType.ofRtype r)))) := rfl
  rw [e]; simp only [Sem.run_bind, hu, hr, hf, Result.andThen, Sem.run_pure]
theorem assignable_not {P : Program} {u t : TypeId} (w : World) (hne : (u != t) = true) (p1 : P.methodsOfAPack P.depth t = false) (p2 : P.methodsOfAPack P.depth u = false) (hd : (Rtype.directlyAssignable u t).run P w = .ok false w) (hi : (Rtype.implements u t).run P w = .ok false w) :
    (ReflectliteType.assignableTo u t).run P w = .ok false w := by
  have n1 := fun s => noPackMethods_ok s w p1
  have n2 := fun s => noPackMethods_ok s w p2
  unfold ReflectliteType.assignableTo
  simp only [hne, if_true, Sem.run_bind, n1, n2, Result.andThen, hd, hi, Sem.run_pure, Bool.or_false]
theorem assignableFU (w : World) : (ReflectliteType.relation "AssignableTo" ReflectliteType.assignableTo #[.agg #[.pointer (some ⟨3, 213, none⟩)], .iface 256 (.agg #[.pointer (some ⟨3, 263, none⟩)])]).run Tryz.prog w = .ok (.bool false) w :=
  relationB (x := 263) (y := 213) w (by kernel_rfl) (by kernel_rfl)
    (assignable_not w rfl (by kernel_rfl) (by kernel_rfl) (by kernel_rfl) (implements_lacks (e := 215) w descU (by kernel_rfl) (by kernel_rfl) (by kernel_rfl) (by kernel_rfl)))
theorem noAsF (v : Value) (xT : TypeId) (w : World) : (Instr.typeAssert (.iface 213 v) xT 302 true).run Tryz.prog w = .ok (.tuple #[.nilIface, .bool false]) w := run_typeAssert_lacksB Tryz.underlying302 (by kernel_rfl) (by kernel_rfl) v xT w
theorem hasUnwrapF (v : Value) (xT : TypeId) (w : World) : (Instr.typeAssert (.iface 213 v) xT 261 true).run Tryz.prog w = .ok (.tuple #[.iface 213 v, .bool true]) w := run_typeAssert_hasB Tryz.underlying261 (by kernel_rfl) v xT w

theorem methodForm (z : Sem Value) (f : TypeId → Addr → Nat → Nat → Sem Value) (v : Value) :
    ∃ rest : Option (TypeId × Addr × Nat) → Sem Value, ReflectliteValue.method z f #[v] = (ReflectliteValue.parts v >>= rest) ∧ ∀ t a fl, rest (some (t, a, fl)) = f t a fl (fl % 32) :=
  ⟨_, rfl, fun _ _ _ => rfl⟩
theorem method_run {P : Program} {W W' : World} {z : Sem Value} {f : TypeId → Addr → Nat → Nat → Sem Value} {v x : Value} {t : TypeId} {a : Addr} {fl : Nat} (hp : (ReflectliteValue.parts v).run P W = .ok (some (t, a, fl)) W) (hf : (f t a fl (fl % 32)).run P W = .ok x W') :
    (ReflectliteValue.method z f #[v]).run P W = .ok x W' := by
  obtain ⟨rest, e, h⟩ := methodForm z f v
  rw [e, Sem.run_bind, hp]
  simp only [Result.andThen, h, hf]
theorem setForm (v x : Value) :
    ∃ rest : Option (TypeId × Addr × Nat) → Option (TypeId × Addr × Nat) → Sem Value, ReflectliteValue.set #[v, x] = (ReflectliteValue.parts v >>= fun p => ReflectliteValue.parts x >>= fun q => rest p q) ∧
      ∀ (P : Program) (W W' : World) dst a fl src b fl2 val, (fl / ReflectliteValue.flagAddr % 2 == 0) = false → (loadVar src b).run P W = .ok val W → (Rtype.directlyAssignable dst src).run P W = .ok true W → (storeVar dst a val).run P W = .ok () W' →
        (rest (some (dst, a, fl)) (some (src, b, fl2))).run P W = .ok (.tuple #[]) W' := by
  refine ⟨_, rfl, ?_⟩
  intro P W W' dst a fl src b fl2 val h1 h2 h3 h4
  simp only [h1, Sem.run_bind, h2, h3, h4, Result.andThen, Bool.false_eq_true, if_false, if_true, Sem.run_pure]
theorem set_run {P : Program} {W W' : World} {v x val : Value} {dst src : TypeId} {a b : Addr} {fl fl2 : Nat} (hv : (ReflectliteValue.parts v).run P W = .ok (some (dst, a, fl)) W) (hx : (ReflectliteValue.parts x).run P W = .ok (some (src, b, fl2)) W)
    (h1 : (fl / ReflectliteValue.flagAddr % 2 == 0) = false) (h2 : (loadVar src b).run P W = .ok val W) (h3 : (Rtype.directlyAssignable dst src).run P W = .ok true W) (h4 : (storeVar dst a val).run P W = .ok () W') :
    (ReflectliteValue.set #[v, x]).run P W = .ok (.tuple #[]) W' := by
  obtain ⟨rest, e, h⟩ := setForm v x
  rw [e, Sem.run_bind, hv]
  simp only [Result.andThen, Sem.run_bind, hx]
  exact h P W W' _ _ _ _ _ _ _ h1 h2 h3 h4
theorem partsP (a : Addr) (w : World) : (ReflectliteValue.parts (.agg #[.pointer (some ⟨3, 271, none⟩), .pointer (some a), .int .u64 150])).run Tryz.prog w = .ok (some (271, a, 150)) w := by kernel_rfl
theorem partsQ (a : Addr) (w : World) : (ReflectliteValue.parts (.agg #[.pointer (some ⟨3, 273, none⟩), .pointer (some a), .int .u64 150])).run Tryz.prog w = .ok (some (273, a, 150)) w := by kernel_rfl
/-- (Value).IsNil at a Value whose pointer is not nil. -/
theorem isNilP (a p : Addr) (W : World) (ha : W.cell? a = some (.pointer (some p))) :
    (ReflectliteValue.method (ReflectliteValue.valueError "reflectlite.Value.IsNil" 0) ReflectliteValue.isNil #[.agg #[.pointer (some ⟨3, 271, none⟩), .pointer (some a), .int .u64 150]]).run Tryz.prog W = .ok (.bool false) W := by
  refine method_run (partsP a W) ?_
  simp [ReflectliteValue.isNil, loadVar, isAgg, underlying, Tryz.underlying271, ha, Result.andThen]
theorem isNilQ (a p : Addr) (W : World) (ha : W.cell? a = some (.pointer (some p))) :
    (ReflectliteValue.method (ReflectliteValue.valueError "reflectlite.Value.IsNil" 0) ReflectliteValue.isNil #[.agg #[.pointer (some ⟨3, 273, none⟩), .pointer (some a), .int .u64 150]]).run Tryz.prog W = .ok (.bool false) W := by
  refine method_run (partsQ a W) ?_
  simp [ReflectliteValue.isNil, loadVar, isAgg, underlying, Tryz.underlying273, ha, Result.andThen]
theorem elemOfP (w : World) : (Rtype.elem? 271).run Tryz.prog w = .ok (some 213) w := by kernel_rfl
theorem mkF (p : Addr) (w : World) : (ReflectliteValue.mk 213 p ReflectliteValue.flagAddr).run Tryz.prog w = .ok (.agg #[.pointer (some ⟨3, 213, none⟩), .pointer (some p), .int .u64 406]) w := by kernel_rfl
/-- (Value).Elem: the Value of the variable that it points to, addressable. -/
theorem elemVP (a p : Addr) (W : World) (ha : W.cell? a = some (.pointer (some p))) :
    (ReflectliteValue.method (ReflectliteValue.valueError "reflectlite.Value.Elem" 0) ReflectliteValue.elem #[.agg #[.pointer (some ⟨3, 271, none⟩), .pointer (some a), .int .u64 150]]).run Tryz.prog W
      = .ok (.agg #[.pointer (some ⟨3, 213, none⟩), .pointer (some p), .int .u64 406]) W := by
  refine method_run (partsP a W) ?_
  simp [ReflectliteValue.elem, loadVar, isAgg, underlying, Tryz.underlying271, ha, Result.andThen, elemOfP, mkF]
theorem partsFa (a : Addr) (w : World) : (ReflectliteValue.parts (.agg #[.pointer (some ⟨3, 213, none⟩), .pointer (some a), .int .u64 406])).run Tryz.prog w = .ok (some (213, a, 406)) w := by kernel_rfl
theorem partsF (a : Addr) (w : World) : (ReflectliteValue.parts (.agg #[.pointer (some ⟨3, 213, none⟩), .pointer (some a), .int .u64 150])).run Tryz.prog w = .ok (some (213, a, 150)) w := by kernel_rfl
theorem directF (w : World) : (Rtype.directlyAssignable 213 213).run Tryz.prog w = .ok true w := by kernel_rfl
/-- (Value).Set: the *Fault variable at 'ta' gets what the Value's own variable 'b' holds. -/
theorem setF (ta b e : Addr) (old : Value) (W : World) (hb : W.cell? b = some (.pointer (some e))) (ht : W.cell? ta = some old) (hf : W.frozen? ta = false) :
    (ReflectliteValue.set #[.agg #[.pointer (some ⟨3, 213, none⟩), .pointer (some ta), .int .u64 406], .agg #[.pointer (some ⟨3, 213, none⟩), .pointer (some b), .int .u64 150]]).run Tryz.prog W
      = .ok (.tuple #[]) (W.setCell ta (.pointer (some e))) := by
  refine set_run (partsFa ta W) (partsF b W) (by kernel_rfl) (val := .pointer (some e)) ?_ (directF W) ?_
  · simp [loadVar, isAgg, underlying, Tryz.underlying213, hb, Result.andThen]
  · simp [storeVar, Value.cells, storeCells, Addr.add, Result.andThen]
    rw [run_store Tryz.prog W ta _ _ (by rfl)]
    simp [ht, hf]

/-- A package-level variable's cell: errors.errorType holds the handle of 'error'. -/
def ErrType (w : World) : Prop := w.cell? ⟨0, 0, none⟩ = some (.iface 256 (.agg #[.pointer (some ⟨3, 93, none⟩)]))

end Go.Proofs.YtmmpknfkncgjpaaGreatDoor

namespace Go.Proofs.YtmmpknfkncgjpaaGreatDoor
open Go.RowKit Go.Extern.Stop Go.Stop Go.Extern

set_option maxHeartbeats 4000000 in
theorem as_hit (e t : Addr) (old : Value) (w : World) (hg : ErrType w) (ht0 : w.cell? t = some old) (hf0 : w.frozen? t = false) :
    Calls Tryz.prog 181 #[.iface 213 (.pointer (some e)), .iface 271 (.pointer (some t))] w fun ev w' => ev = .returned (.bool true) ∧ w' = ((((w.alloc (.cells #[.pointer (some t)] 271)).alloc (.cells #[.pointer (some ⟨3, 271, none⟩), .pointer (some ⟨w.heap.size, 0, none⟩), .int .u64 150] 289)).alloc (.cells #[.pointer (some ⟨3, 271, none⟩), .pointer (some ⟨w.heap.size, 0, none⟩), .int .u64 150] 289)).alloc (.cells #[.pointer (some e)] 213)).setCell t (.pointer (some e)) := by
  unfold ErrType at hg
  have h6 := @run_callFunc_extern Tryz.prog 188 _ (fun args => ReflectliteValue.unpack (args.getD 0 (.tuple #[]))) Tryz.func188 (by kernel_rfl) (by kernel_rfl) (by kernel_rfl) (by kernel_rfl)
  have h7 := @run_callFunc_extern Tryz.prog 189 _ (ReflectliteValue.methodAny (ReflectliteValue.valueError "reflectlite.Value.Type" 0) (fun t _ _ _ => ReflectliteType.toType t)) Tryz.func189 (by kernel_rfl) (by kernel_rfl) (by kernel_rfl) (by kernel_rfl)
  have h8 := @run_callFunc_extern Tryz.prog 190 _ (ReflectliteValue.method (ReflectliteValue.valueError "reflectlite.Value.IsNil" 0) ReflectliteValue.isNil) Tryz.func190 (by kernel_rfl) (by kernel_rfl) (by kernel_rfl) (by kernel_rfl)
  have h27 := @run_callFunc_extern Tryz.prog 210 _ (ReflectliteType.abiMethod fun t => do pure (.int .u8 (← Rtype.kind t))) Tryz.func210 (by kernel_rfl) (by kernel_rfl) (by kernel_rfl) (by kernel_rfl)
  have h37 := @run_callFunc_extern Tryz.prog 225 _ (ReflectliteType.method ReflectliteType.elem) Tryz.func225 (by kernel_rfl) (by kernel_rfl) (by kernel_rfl) (by kernel_rfl)
  have h38 := @run_callFunc_extern Tryz.prog 226 _ (ReflectliteType.relation "Implements" ReflectliteType.implements_) Tryz.func226 (by kernel_rfl) (by kernel_rfl) (by kernel_rfl) (by kernel_rfl)
  have h10 := @run_callFunc_extern Tryz.prog 150 _ ReflectliteType.typeOf Tryz.func150 (by kernel_rfl) (by kernel_rfl) (by kernel_rfl) (by kernel_rfl)
  have h35 := @run_callFunc_extern Tryz.prog 223 _ (ReflectliteType.relation "AssignableTo" ReflectliteType.assignableTo) Tryz.func223 (by kernel_rfl) (by kernel_rfl) (by kernel_rfl) (by kernel_rfl)
  have h11 := @run_callFunc_extern Tryz.prog 194 _ (ReflectliteValue.method (ReflectliteValue.valueError "reflectlite.Value.Elem" 0) ReflectliteValue.elem) Tryz.func194 (by kernel_rfl) (by kernel_rfl) (by kernel_rfl) (by kernel_rfl)
  have h12 := @run_callFunc_extern Tryz.prog 195 _ ReflectliteValue.set Tryz.func195 (by kernel_rfl) (by kernel_rfl) (by kernel_rfl) (by kernel_rfl)
  have tO := typeOfF
  have a25 := assignableFF
  have v25 := valueOfF
  have f6 := valueOfP
  have f7 := typeP
  have k27 := kindP
  have k25 := kindF
  have e27 := elemP
  have i25 := implementsF
  have n8 := isNilP ⟨w.heap.size, 0, none⟩ t ((w.alloc (.cells #[.pointer (some t)] 271)).alloc (.cells #[.pointer (some ⟨3, 271, none⟩), .pointer (some ⟨w.heap.size, 0, none⟩), .int .u64 150] 289)) (by simp)
  have hlt : 0 < w.heap.size := World.block_lt_of_cell? w _ hg
  have hg2 : ((w.alloc (.cells #[.pointer (some t)] 271)).alloc (.cells #[.pointer (some ⟨3, 271, none⟩), .pointer (some ⟨w.heap.size, 0, none⟩), .int .u64 150] 289)).cell? ⟨0, 0, none⟩ = some (.iface 256 (.agg #[.pointer (some ⟨3, 93, none⟩)])) := by
    rw [World.cell?_alloc_lt _ _ ⟨0, 0, none⟩ (Nat.lt_of_lt_of_le hlt (by simp)), World.cell?_alloc_lt _ _ ⟨0, 0, none⟩ hlt]; exact hg
  have htl : t.block < w.heap.size := by
    rcases Nat.lt_or_ge t.block w.heap.size with h | h
    · exact h
    · simp [World.cell?, Array.getElem?_eq_none h] at ht0
  have el := elemVP ⟨w.heap.size, 0, none⟩ t (((w.alloc (.cells #[.pointer (some t)] 271)).alloc (.cells #[.pointer (some ⟨3, 271, none⟩), .pointer (some ⟨w.heap.size, 0, none⟩), .int .u64 150] 289)).alloc (.cells #[.pointer (some ⟨3, 271, none⟩), .pointer (some ⟨w.heap.size, 0, none⟩), .int .u64 150] 289)) (by rw [World.cell?_alloc_lt _ _ ⟨w.heap.size, 0, none⟩ (by simp; omega)]; simp)
  have st := setF t ⟨w.heap.size + 1 + 1 + 1, 0, none⟩ e old ((((w.alloc (.cells #[.pointer (some t)] 271)).alloc (.cells #[.pointer (some ⟨3, 271, none⟩), .pointer (some ⟨w.heap.size, 0, none⟩), .int .u64 150] 289)).alloc (.cells #[.pointer (some ⟨3, 271, none⟩), .pointer (some ⟨w.heap.size, 0, none⟩), .int .u64 150] 289)).alloc (.cells #[.pointer (some e)] 213))
    (by rw [World.cell?_alloc_at _ _ _ _ (by simp)]; rfl)
    (by rw [World.cell?_alloc_lt _ _ t (by simp; omega), World.cell?_alloc_lt _ _ t (by simp; omega), World.cell?_alloc_lt _ _ t (by simp; omega), World.cell?_alloc_lt _ _ t htl]; exact ht0)
    (by rw [World.frozen?_alloc_old _ _ t (by simp; omega), World.frozen?_alloc_old _ _ t (by simp; omega), World.frozen?_alloc_old _ _ t (by simp; omega), World.frozen?_alloc_old _ _ t (Nat.ne_of_lt htl)]; exact hf0)
  go_enter Tryz.func181, Tryz.ntmps181
  go_wp2
  refine wp_loop_rounds 1 ?_
  rw [rounds_succ]
  go_wp2
  go_ret
  exact ⟨rfl, rfl⟩

end Go.Proofs.YtmmpknfkncgjpaaGreatDoor

namespace Go.Proofs.YtmmpknfkncgjpaaGreatDoor
open Go.RowKit Go.Extern.Stop Go.Stop Go.Extern

set_option maxRecDepth 100000 in
set_option maxHeartbeats 4000000 in
theorem as_miss (b o : Nat) (t : Addr) (w : World) (hu : w.cell? ⟨b, o + 2, none⟩ = some .nilIface) :
    Calls Tryz.prog 181 #[.iface 213 (.pointer (some ⟨b, o, none⟩)), .iface 273 (.pointer (some t))] w fun ev w' => ev = .returned (.bool false) ∧ w' = ((w.alloc (.cells #[.pointer (some t)] 273)).alloc (.cells #[.pointer (some ⟨3, 273, none⟩), .pointer (some ⟨w.heap.size, 0, none⟩), .int .u64 150] 289)).alloc (.cells #[.pointer (some ⟨3, 273, none⟩), .pointer (some ⟨w.heap.size, 0, none⟩), .int .u64 150] 289) := by
  have h6 := @run_callFunc_extern Tryz.prog 188 _ (fun args => ReflectliteValue.unpack (args.getD 0 (.tuple #[]))) Tryz.func188 (by kernel_rfl) (by kernel_rfl) (by kernel_rfl) (by kernel_rfl)
  have h7 := @run_callFunc_extern Tryz.prog 189 _ (ReflectliteValue.methodAny (ReflectliteValue.valueError "reflectlite.Value.Type" 0) (fun t _ _ _ => ReflectliteType.toType t)) Tryz.func189 (by kernel_rfl) (by kernel_rfl) (by kernel_rfl) (by kernel_rfl)
  have h8 := @run_callFunc_extern Tryz.prog 190 _ (ReflectliteValue.method (ReflectliteValue.valueError "reflectlite.Value.IsNil" 0) ReflectliteValue.isNil) Tryz.func190 (by kernel_rfl) (by kernel_rfl) (by kernel_rfl) (by kernel_rfl)
  have h27 := @run_callFunc_extern Tryz.prog 210 _ (ReflectliteType.abiMethod fun t => do pure (.int .u8 (← Rtype.kind t))) Tryz.func210 (by kernel_rfl) (by kernel_rfl) (by kernel_rfl) (by kernel_rfl)
  have h37 := @run_callFunc_extern Tryz.prog 225 _ (ReflectliteType.method ReflectliteType.elem) Tryz.func225 (by kernel_rfl) (by kernel_rfl) (by kernel_rfl) (by kernel_rfl)
  have h10 := @run_callFunc_extern Tryz.prog 150 _ ReflectliteType.typeOf Tryz.func150 (by kernel_rfl) (by kernel_rfl) (by kernel_rfl) (by kernel_rfl)
  have h35 := @run_callFunc_extern Tryz.prog 223 _ (ReflectliteType.relation "AssignableTo" ReflectliteType.assignableTo) Tryz.func223 (by kernel_rfl) (by kernel_rfl) (by kernel_rfl) (by kernel_rfl)
  have tO := typeOfF
  have aFU := assignableFU
  have f6 := valueOfQ
  have f7 := typeQ
  have kQ := kindQ
  have kU := kindU
  have eQ := elemQ
  have nA := noAsF
  have hU := hasUnwrapF
  have n8 := isNilQ ⟨w.heap.size, 0, none⟩ t ((w.alloc (.cells #[.pointer (some t)] 273)).alloc (.cells #[.pointer (some ⟨3, 273, none⟩), .pointer (some ⟨w.heap.size, 0, none⟩), .int .u64 150] 289)) (by simp)
  have hbl : b < w.heap.size := by
    rcases Nat.lt_or_ge b w.heap.size with h | h
    · exact h
    · simp [World.cell?, Array.getElem?_eq_none h] at hu
  have hu3 : (((w.alloc (.cells #[.pointer (some t)] 273)).alloc (.cells #[.pointer (some ⟨3, 273, none⟩), .pointer (some ⟨w.heap.size, 0, none⟩), .int .u64 150] 289)).alloc (.cells #[.pointer (some ⟨3, 273, none⟩), .pointer (some ⟨w.heap.size, 0, none⟩), .int .u64 150] 289)).cell? ⟨b, o + 2, none⟩ = some .nilIface := by
    rw [World.cell?_alloc_lt _ _ ⟨b, o + 2, none⟩ (by simp; omega), World.cell?_alloc_lt _ _ ⟨b, o + 2, none⟩ (by simp; omega), World.cell?_alloc_lt _ _ ⟨b, o + 2, none⟩ hbl]; exact hu
  go_enter Tryz.func181, Tryz.ntmps181
  go_wp2
  refine wp_loop_rounds 1 ?_
  rw [rounds_succ]
  go_wp2
  go_ret
  exact ⟨rfl, rfl⟩
end Go.Proofs.YtmmpknfkncgjpaaGreatDoor

namespace Go.Proofs.YtmmpknfkncgjpaaGreatDoor
open Go.RowKit Go.Extern.Stop Go.Stop Go.Extern

/-- Two pointers to one Fault, as errors, are one. -/
theorem eqFF (a : Addr) (w : World) : (binOp .eql 93 (.iface 213 (.pointer (some a))) (.iface 213 (.pointer (some a)))).run Tryz.prog w = .ok (.bool true) w := by
  obtain ⟨i, hi, hc⟩ := Option.map_eq_some_iff.1 (show (Tryz.prog.info? 213).map (·.comparable) = some true by kernel_rfl)
  obtain ⟨j, hj, _⟩ := Option.map_eq_some_iff.1 (show (Tryz.prog.info? 215).map (·.comparable) = some true by kernel_rfl)
  exact run_eql_iface_ptr_same w a Tryz.underlying93 Tryz.underlying213 hi hc hj

/-- errors.As, the target a *Fault variable in block n: what lies below block n is as it was. -/
theorem as_hit_below (e : Addr) (n : Nat) (old : Value) (w : World) (hg : ErrType w) (ht0 : w.cell? ⟨n, 0, none⟩ = some old) (hf0 : w.frozen? ⟨n, 0, none⟩ = false) :
    Calls Tryz.prog 181 #[.iface 213 (.pointer (some e)), .iface 271 (.pointer (some ⟨n, 0, none⟩))] w fun ev w' => ev = .returned (.bool true) ∧ w'.cell? ⟨n, 0, none⟩ = some (.pointer (some e)) ∧ Below n w w' := by
  have hn : n < w.heap.size := by
    rcases Nat.lt_or_ge n w.heap.size with h | h
    · exact h
    · simp [World.cell?, Array.getElem?_eq_none h] at ht0
  refine (as_hit e ⟨n, 0, none⟩ old w hg ht0 hf0).mono fun ev w' ⟨he, hw⟩ => ⟨he, ?_, ?_⟩
  · subst hw
    have h4 : (((((w.alloc (.cells #[.pointer (some ⟨n, 0, none⟩)] 271)).alloc (.cells #[.pointer (some ⟨3, 271, none⟩), .pointer (some ⟨w.heap.size, 0, none⟩), .int .u64 150] 289)).alloc (.cells #[.pointer (some ⟨3, 271, none⟩), .pointer (some ⟨w.heap.size, 0, none⟩), .int .u64 150] 289)).alloc (.cells #[.pointer (some e)] 213))).cell? ⟨n, 0, none⟩ = some old := by
      rw [World.cell?_alloc_lt _ _ ⟨n, 0, none⟩ (by simp; omega), World.cell?_alloc_lt _ _ ⟨n, 0, none⟩ (by simp; omega), World.cell?_alloc_lt _ _ ⟨n, 0, none⟩ (by simp; omega), World.cell?_alloc_lt _ _ ⟨n, 0, none⟩ hn]; exact ht0
    exact World.cell?_setCell_same _ _ _ h4
  · subst hw
    exact (((((Below.refl n w).alloc (by omega) _).alloc (by simp; omega) _).alloc (by simp; omega) _).alloc (by simp; omega) _).setCell (Nat.le_refl _) _

/-- errors.Unwrap of a Fault: what lies under it. -/
theorem unwrap_fault (b o : Nat) (u : Value) (w : World) (hu : w.cell? ⟨b, o + 2, none⟩ = some u) :
    Calls Tryz.prog 167 #[.iface 213 (.pointer (some ⟨b, o, none⟩))] w fun ev w' => ev = .returned u ∧ w' = w := by
  have hU := hasUnwrapF
  go_enter Tryz.func167, Tryz.ntmps167
  go_wp2
  go_ret
  exact ⟨rfl, rfl⟩

/-- own: a Fault's number, and true. -/
theorem own_fault (b o : Nat) (E : Int) (w : World) (hg : ErrType w) (hE : w.cell? ⟨b, o, none⟩ = some (.int .i64 E)) :
    Calls Tryz.prog 165 #[.iface 213 (.pointer (some ⟨b, o, none⟩))] w fun ev w' => ev = .returned (.tuple #[.int .i64 E, .bool true]) ∧ Below w.heap.size w w' := by
  have hq := eqFF
  have hbl : b < w.heap.size := by
    rcases Nat.lt_or_ge b w.heap.size with h | h
    · exact h
    · simp [World.cell?, Array.getElem?_eq_none h] at hE
  have hz : 0 < w.heap.size := World.block_lt_of_cell? w _ hg
  have HG := hg
  go_enter Tryz.func165, Tryz.ntmps165
  go_wp2_with fail
  go_at_call 181
  refine (as_hit_below ⟨b, o, none⟩ w.heap.size (.pointer none) _ ?_ ?_ ?_).mono ?_
  · unfold ErrType; rw [World.cell?_alloc_lt _ _ ⟨0, 0, none⟩ hz]; exact HG
  · simp
  · simp
  rintro ev w' ⟨rfl, hc, hb⟩
  have hE' : w'.cell? ⟨b, o, none⟩ = some (.int .i64 E) := by
    rw [hb.cell (p := ⟨b, o, none⟩) hbl, World.cell?_alloc_lt _ _ ⟨b, o, none⟩ hbl]; exact hE
  go_wp2
  go_ret2
  exact ⟨rfl, ((Below.refl _ _).alloc (Nat.le_refl _) _).trans hb⟩

/-- joined: nothing, whether nothing lies under the Fault or a Fault does. -/
theorem joined_bare (b o : Nat) (w : World) (hu : w.cell? ⟨b, o + 2, none⟩ = some .nilIface) :
    Calls Tryz.prog 166 #[.iface 213 (.pointer (some ⟨b, o, none⟩))] w fun ev w' => ev = .returned (.slice none 0 0) ∧ Below w.heap.size w w' := by
  have hbl : b < w.heap.size := by
    rcases Nat.lt_or_ge b w.heap.size with h | h
    · exact h
    · simp [World.cell?, Array.getElem?_eq_none h] at hu
  have hu1 : ∀ x, (w.alloc x).cell? ⟨b, o + 2, none⟩ = some .nilIface := fun x => by rw [World.cell?_alloc_lt _ _ ⟨b, o + 2, none⟩ hbl]; exact hu
  go_enter Tryz.func166, Tryz.ntmps166
  go_wp2_with (first
    | (go_at_call 167; refine (unwrap_fault _ _ .nilIface _ (hu1 _)).mono ?_; rintro ev w' ⟨rfl, rfl⟩)
    | (go_at_call 181; refine (as_miss _ _ _ _ (hu1 _)).mono ?_; rintro ev w' ⟨rfl, rfl⟩))
  go_ret
  exact ⟨rfl, by go_grown⟩
theorem joined_over (b o : Nat) (t : TypeId) (u : Value) (w : World) (hu : w.cell? ⟨b, o + 2, none⟩ = some (.iface t u)) :
    Calls Tryz.prog 166 #[.iface 213 (.pointer (some ⟨b, o, none⟩))] w fun ev w' => ev = .returned (.slice none 0 0) ∧ Below w.heap.size w w' := by
  have hbl : b < w.heap.size := by
    rcases Nat.lt_or_ge b w.heap.size with h | h
    · exact h
    · simp [World.cell?, Array.getElem?_eq_none h] at hu
  have hu1 : ∀ x, (w.alloc x).cell? ⟨b, o + 2, none⟩ = some (.iface t u) := fun x => by rw [World.cell?_alloc_lt _ _ ⟨b, o + 2, none⟩ hbl]; exact hu
  go_enter Tryz.func166, Tryz.ntmps166
  go_wp2_with (go_at_call 167; refine (unwrap_fault _ _ (.iface t u) _ (hu1 _)).mono ?_; rintro ev w' ⟨rfl, rfl⟩)
  go_ret
  exact ⟨rfl, by go_grown⟩
end Go.Proofs.YtmmpknfkncgjpaaGreatDoor
