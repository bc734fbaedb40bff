/-
  errors.As and errors.Unwrap at a Fault of package field, by contracts (Go's own text of both is walked): the target is a *Fault: it is found at once; the target is an interface that no Fault has, and nothing lies under the Fault: it is not found.
-/
import Derived.Test.YthjinpbclfankaaGreatDoorProg
import Derived.WalkKit
import Derived.LaidEql
import Derived.Stop.Asserts
import Derived.RowKitTokens
import Derived.Handy
namespace Go.Proofs.YthjinpbclfankaaGreatDoor
open Go.RowKit Go.Extern.Stop Go.Stop Go.Extern

/- F: *field.Fault; P: a pointer to that; R: reflectlite's rtype; U: the interface of several errors; Q: a pointer to it. -/
theorem valueOfP (t : Addr) (w : World) : (ReflectliteValue.unpack (.iface 142 (.pointer (some t)))).run Tryz.prog w
    = .ok (.agg #[.pointer (some ⟨1, 142, none⟩), .pointer (some ⟨w.heap.size, 0, none⟩), .int .u64 150]) (w.alloc (.cells #[.pointer (some t)] 142)) := by kernel_rfl
theorem valueOfQ (t : Addr) (w : World) : (ReflectliteValue.unpack (.iface 145 (.pointer (some t)))).run Tryz.prog w
    = .ok (.agg #[.pointer (some ⟨1, 145, none⟩), .pointer (some ⟨w.heap.size, 0, none⟩), .int .u64 150]) (w.alloc (.cells #[.pointer (some t)] 145)) := by kernel_rfl
theorem valueOfF (e : Addr) (w : World) : (ReflectliteValue.unpack (.iface 127 (.pointer (some e)))).run Tryz.prog w
    = .ok (.agg #[.pointer (some ⟨1, 127, none⟩), .pointer (some ⟨w.heap.size, 0, none⟩), .int .u64 150]) (w.alloc (.cells #[.pointer (some e)] 127)) := by kernel_rfl
theorem typeP (a : Addr) (w : World) : (ReflectliteValue.methodAny (ReflectliteValue.valueError "reflectlite.Value.Type" 0) (fun t _ _ _ => ReflectliteType.toType t) #[.agg #[.pointer (some ⟨1, 142, none⟩), .pointer (some a), .int .u64 150]]).run Tryz.prog w
    = .ok (.iface 165 (.agg #[.pointer (some ⟨1, 142, none⟩)])) w := by kernel_rfl
theorem typeQ (a : Addr) (w : World) : (ReflectliteValue.methodAny (ReflectliteValue.valueError "reflectlite.Value.Type" 0) (fun t _ _ _ => ReflectliteType.toType t) #[.agg #[.pointer (some ⟨1, 145, none⟩), .pointer (some a), .int .u64 150]]).run Tryz.prog w
    = .ok (.iface 165 (.agg #[.pointer (some ⟨1, 145, none⟩)])) w := by kernel_rfl
theorem kindP (w : World) : ((ReflectliteType.abiMethod fun t => Functor.map (fun a : Nat => Value.int IntKind.u8 (a : Int)) (Rtype.kind t)) #[.pointer (some ⟨1, 142, none⟩)]).run Tryz.prog w = .ok (.int .u8 22) w := by kernel_rfl
theorem kindQ (w : World) : ((ReflectliteType.abiMethod fun t => Functor.map (fun a : Nat => Value.int IntKind.u8 (a : Int)) (Rtype.kind t)) #[.pointer (some ⟨1, 145, none⟩)]).run Tryz.prog w = .ok (.int .u8 22) w := by kernel_rfl
theorem kindF (w : World) : ((ReflectliteType.abiMethod fun t => Functor.map (fun a : Nat => Value.int IntKind.u8 (a : Int)) (Rtype.kind t)) #[.pointer (some ⟨1, 127, none⟩)]).run Tryz.prog w = .ok (.int .u8 22) w := by kernel_rfl
theorem kindU (w : World) : ((ReflectliteType.abiMethod fun t => Functor.map (fun a : Nat => Value.int IntKind.u8 (a : Int)) (Rtype.kind t)) #[.pointer (some ⟨1, 144, none⟩)]).run Tryz.prog w = .ok (.int .u8 20) w := by kernel_rfl
theorem elemP (w : World) : (ReflectliteType.method ReflectliteType.elem #[.agg #[.pointer (some ⟨1, 142, none⟩)]]).run Tryz.prog w = .ok (.iface 165 (.agg #[.pointer (some ⟨1, 127, none⟩)])) w := by kernel_rfl
theorem elemQ (w : World) : (ReflectliteType.method ReflectliteType.elem #[.agg #[.pointer (some ⟨1, 145, none⟩)]]).run Tryz.prog w = .ok (.iface 165 (.agg #[.pointer (some ⟨1, 144, none⟩)])) w := by kernel_rfl
theorem implementsF (w : World) : (ReflectliteType.relation "Implements" ReflectliteType.implements_ #[.agg #[.pointer (some ⟨1, 127, none⟩)], .iface 165 (.agg #[.pointer (some ⟨1, 60, none⟩)])]).run Tryz.prog w = .ok (.bool true) w := by kernel_rfl
theorem typeOfF (v : Value) (w : World) : (ReflectliteType.typeOf #[.iface 127 v]).run Tryz.prog w = .ok (.iface 165 (.agg #[.pointer (some ⟨1, 127, none⟩)])) w := by kernel_rfl
theorem assignableFF (w : World) : (ReflectliteType.relation "AssignableTo" ReflectliteType.assignableTo #[.agg #[.pointer (some ⟨1, 127, none⟩)], .iface 165 (.agg #[.pointer (some ⟨1, 127, none⟩)])]).run Tryz.prog w = .ok (.bool true) w := by kernel_rfl
theorem descU : (Tryz.prog.info? 144).map (·.desc) = some (.interface #[("Unwrap", 146)]) := by kernel_rfl
theorem noPackMethods_ok {P : Program} {t : TypeId} (what : String) (w : World) (h : P.methodsOfAPack P.depth t = false) : (Rtype.noPackMethods what t).run P w = .ok () w := by
  simp [Rtype.noPackMethods, h]
theorem typeInfo_ok {P : Program} {t : TypeId} {i : TypeInfo} (w : World) (h : P.info? t = some i) : (typeInfo t).run P w = .ok i w := by
  simp [typeInfo, h]
theorem under_ok {P : Program} {t : TypeId} {i : TypeInfo} (w : World) (h : P.info? t = some i) (hn : ∀ q u, i.desc ≠ .named q u) : (Rtype.under t).run P w = .ok (t, i) w := by
  unfold Rtype.under
  simp only [Sem.run_bind, typeInfo_ok w h, Result.andThen]
  rfl
theorem implements_lacks {P : Program} {T V e : TypeId} {want : Array (String × TypeId)} (w : World) (dT : (P.info? T).map (·.desc) = some (.interface want)) (dV : (P.info? V).map (·.desc) = some (.pointer e))
    (p1 : P.methodsOfAPack P.depth V = false) (p2 : P.methodsOfAPack P.depth T = false) (hl : (P.info? V).map (fun i => (lacking want i.methods).isEmpty) = some false) : (Rtype.implements T V).run P w = .ok false w := by
  obtain ⟨iT, hT, dT'⟩ := Option.map_eq_some_iff.1 dT
  obtain ⟨iV, hV, dV'⟩ := Option.map_eq_some_iff.1 dV
  have hl' : lacking want iV.methods ≠ [] := by
    rw [hV] at hl; simp only [Option.map_some, Option.some.injEq] at hl
    intro h; rw [h] at hl; cases hl
  obtain ⟨m, hm⟩ := missingMethod_some hl'
  have uT := under_ok w hT (fun q u h => by rw [dT'] at h; cases h)
  have uV := under_ok w hV (fun q u h => by rw [dV'] at h; cases h)
  have tV := typeInfo_ok w hV
  have n1 := fun s => noPackMethods_ok s w p1
  have n2 := fun s => noPackMethods_ok s w p2
  unfold Rtype.implements
  simp only [Sem.run_bind, n1, n2, uT, uV, Result.andThen, dT', dV', tV, hm, Sem.run_pure, Option.isNone_some]
theorem relationB {P : Program} {what : String} {f : TypeId → TypeId → Sem Bool} {r u : Value} {t : TypeId} {x y : TypeId} {b : Bool} (w : World) (hu : (ReflectliteType.ofRtype u).run P w = .ok x w) (hr : (ReflectliteType.ofRtype r).run P w = .ok y w) (hf : (f x y).run P w = .ok b w) :
    (ReflectliteType.relation what f #[r, .iface t u]).run P w = .ok (.bool b) w := by
  have e : ReflectliteType.relation what f #[r, .iface t u] = (do pure (.bool (← f (← ReflectliteType.ofRtype u) (← ReflectliteType.ofRtype r)))) := rfl
  rw [e]; simp only [Sem.run_bind, hu, hr, hf, Result.andThen, Sem.run_pure]
theorem assignable_not {P : Program} {u t : TypeId} (w : World) (hne : (u != t) = true) (p1 : P.methodsOfAPack P.depth t = false) (p2 : P.methodsOfAPack P.depth u = false) (hd : (Rtype.directlyAssignable u t).run P w = .ok false w) (hi : (Rtype.implements u t).run P w = .ok false w) :
    (ReflectliteType.assignableTo u t).run P w = .ok false w := by
  have n1 := fun s => noPackMethods_ok s w p1
  have n2 := fun s => noPackMethods_ok s w p2
  unfold ReflectliteType.assignableTo
  simp only [hne, if_true, Sem.run_bind, n1, n2, Result.andThen, hd, hi, Sem.run_pure, Bool.or_false]
theorem assignableFU (w : World) : (ReflectliteType.relation "AssignableTo" ReflectliteType.assignableTo #[.agg #[.pointer (some ⟨1, 127, none⟩)], .iface 165 (.agg #[.pointer (some ⟨1, 144, none⟩)])]).run Tryz.prog w = .ok (.bool false) w :=
  relationB (x := 144) (y := 127) w (by kernel_rfl) (by kernel_rfl)
    (assignable_not w rfl (by kernel_rfl) (by kernel_rfl) (by kernel_rfl) (implements_lacks (e := 129) w descU (by kernel_rfl) (by kernel_rfl) (by kernel_rfl) (by kernel_rfl)))
theorem noAsF (v : Value) (xT : TypeId) (w : World) : (Instr.typeAssert (.iface 127 v) xT 170 true).run Tryz.prog w = .ok (.tuple #[.nilIface, .bool false]) w := run_typeAssert_lacksB Tryz.underlying170 (by kernel_rfl) (by kernel_rfl) v xT w
theorem hasUnwrapF (v : Value) (xT : TypeId) (w : World) : (Instr.typeAssert (.iface 127 v) xT 147 true).run Tryz.prog w = .ok (.tuple #[.iface 127 v, .bool true]) w := run_typeAssert_hasB Tryz.underlying147 (by kernel_rfl) v xT w

theorem methodForm (z : Sem Value) (f : TypeId → Addr → Nat → Nat → Sem Value) (v : Value) :
    ∃ rest : Option (TypeId × Addr × Nat) → Sem Value, ReflectliteValue.method z f #[v] = (ReflectliteValue.parts v >>= rest) ∧ ∀ t a fl, rest (some (t, a, fl)) = f t a fl (fl % 32) :=
  ⟨_, rfl, fun _ _ _ => rfl⟩
theorem method_run {P : Program} {W W' : World} {z : Sem Value} {f : TypeId → Addr → Nat → Nat → Sem Value} {v x : Value} {t : TypeId} {a : Addr} {fl : Nat} (hp : (ReflectliteValue.parts v).run P W = .ok (some (t, a, fl)) W) (hf : (f t a fl (fl % 32)).run P W = .ok x W') :
    (ReflectliteValue.method z f #[v]).run P W = .ok x W' := by
  obtain ⟨rest, e, h⟩ := methodForm z f v
  rw [e, Sem.run_bind, hp]
  simp only [Result.andThen, h, hf]
theorem setForm (v x : Value) :
    ∃ rest : Option (TypeId × Addr × Nat) → Option (TypeId × Addr × Nat) → Sem Value, ReflectliteValue.set #[v, x] = (ReflectliteValue.parts v >>= fun p => ReflectliteValue.parts x >>= fun q => rest p q) ∧
      ∀ (P : Program) (W W' : World) dst a fl src b fl2 val, (fl / ReflectliteValue.flagAddr % 2 == 0) = false → (loadVar src b).run P W = .ok val W → (Rtype.directlyAssignable dst src).run P W = .ok true W → (storeVar dst a val).run P W = .ok () W' →
        (rest (some (dst, a, fl)) (some (src, b, fl2))).run P W = .ok (.tuple #[]) W' := by
  refine ⟨_, rfl, ?_⟩
  intro P W W' dst a fl src b fl2 val h1 h2 h3 h4
  simp only [h1, Sem.run_bind, h2, h3, h4, Result.andThen, Bool.false_eq_true, if_false, if_true, Sem.run_pure]
theorem set_run {P : Program} {W W' : World} {v x val : Value} {dst src : TypeId} {a b : Addr} {fl fl2 : Nat} (hv : (ReflectliteValue.parts v).run P W = .ok (some (dst, a, fl)) W) (hx : (ReflectliteValue.parts x).run P W = .ok (some (src, b, fl2)) W)
    (h1 : (fl / ReflectliteValue.flagAddr % 2 == 0) = false) (h2 : (loadVar src b).run P W = .ok val W) (h3 : (Rtype.directlyAssignable dst src).run P W = .ok true W) (h4 : (storeVar dst a val).run P W = .ok () W') :
    (ReflectliteValue.set #[v, x]).run P W = .ok (.tuple #[]) W' := by
  obtain ⟨rest, e, h⟩ := setForm v x
  rw [e, Sem.run_bind, hv]
  simp only [Result.andThen, Sem.run_bind, hx]
  exact h P W W' _ _ _ _ _ _ _ h1 h2 h3 h4
theorem partsP (a : Addr) (w : World) : (ReflectliteValue.parts (.agg #[.pointer (some ⟨1, 142, none⟩), .pointer (some a), .int .u64 150])).run Tryz.prog w = .ok (some (142, a, 150)) w := by kernel_rfl
theorem partsQ (a : Addr) (w : World) : (ReflectliteValue.parts (.agg #[.pointer (some ⟨1, 145, none⟩), .pointer (some a), .int .u64 150])).run Tryz.prog w = .ok (some (145, a, 150)) w := by kernel_rfl
/-- (Value).IsNil at a Value whose pointer is not nil. -/
theorem isNilP (a p : Addr) (W : World) (ha : W.cell? a = some (.pointer (some p))) :
    (ReflectliteValue.method (ReflectliteValue.valueError "reflectlite.Value.IsNil" 0) ReflectliteValue.isNil #[.agg #[.pointer (some ⟨1, 142, none⟩), .pointer (some a), .int .u64 150]]).run Tryz.prog W = .ok (.bool false) W := by
  refine method_run (partsP a W) ?_
  simp [ReflectliteValue.isNil, loadVar, isAgg, underlying, Tryz.underlying142, ha, Result.andThen]
theorem isNilQ (a p : Addr) (W : World) (ha : W.cell? a = some (.pointer (some p))) :
    (ReflectliteValue.method (ReflectliteValue.valueError "reflectlite.Value.IsNil" 0) ReflectliteValue.isNil #[.agg #[.pointer (some ⟨1, 145, none⟩), .pointer (some a), .int .u64 150]]).run Tryz.prog W = .ok (.bool false) W := by
  refine method_run (partsQ a W) ?_
  simp [ReflectliteValue.isNil, loadVar, isAgg, underlying, Tryz.underlying145, ha, Result.andThen]
theorem elemOfP (w : World) : (Rtype.elem? 142).run Tryz.prog w = .ok (some 127) w := by kernel_rfl
theorem mkF (p : Addr) (w : World) : (ReflectliteValue.mk 127 p ReflectliteValue.flagAddr).run Tryz.prog w = .ok (.agg #[.pointer (some ⟨1, 127, none⟩), .pointer (some p), .int .u64 406]) w := by kernel_rfl
/-- (Value).Elem: the Value of the variable that it points to, addressable. -/
theorem elemVP (a p : Addr) (W : World) (ha : W.cell? a = some (.pointer (some p))) :
    (ReflectliteValue.method (ReflectliteValue.valueError "reflectlite.Value.Elem" 0) ReflectliteValue.elem #[.agg #[.pointer (some ⟨1, 142, none⟩), .pointer (some a), .int .u64 150]]).run Tryz.prog W
      = .ok (.agg #[.pointer (some ⟨1, 127, none⟩), .pointer (some p), .int .u64 406]) W := by
  refine method_run (partsP a W) ?_
  simp [ReflectliteValue.elem, loadVar, isAgg, underlying, Tryz.underlying142, ha, Result.andThen, elemOfP, mkF]
theorem partsFa (a : Addr) (w : World) : (ReflectliteValue.parts (.agg #[.pointer (some ⟨1, 127, none⟩), .pointer (some a), .int .u64 406])).run Tryz.prog w = .ok (some (127, a, 406)) w := by kernel_rfl
theorem partsF (a : Addr) (w : World) : (ReflectliteValue.parts (.agg #[.pointer (some ⟨1, 127, none⟩), .pointer (some a), .int .u64 150])).run Tryz.prog w = .ok (some (127, a, 150)) w := by kernel_rfl
theorem directF (w : World) : (Rtype.directlyAssignable 127 127).run Tryz.prog w = .ok true w := by kernel_rfl
/-- (Value).Set: the *Fault variable at 'ta' gets what the Value's own variable 'b' holds. -/
theorem setF (ta b e : Addr) (old : Value) (W : World) (hb : W.cell? b = some (.pointer (some e))) (ht : W.cell? ta = some old) (hf : W.frozen? ta = false) :
    (ReflectliteValue.set #[.agg #[.pointer (some ⟨1, 127, none⟩), .pointer (some ta), .int .u64 406], .agg #[.pointer (some ⟨1, 127, none⟩), .pointer (some b), .int .u64 150]]).run Tryz.prog W
      = .ok (.tuple #[]) (W.setCell ta (.pointer (some e))) := by
  refine set_run (partsFa ta W) (partsF b W) (by kernel_rfl) (val := .pointer (some e)) ?_ (directF W) ?_
  · simp [loadVar, isAgg, underlying, Tryz.underlying127, hb, Result.andThen]
  · simp [storeVar, Value.cells, storeCells, Addr.add, Result.andThen]
    rw [run_store Tryz.prog W ta _ _ (by rfl)]
    simp [ht, hf]

/-- A package-level variable's cell: errors.errorType holds the handle of 'error'. -/
def ErrType (w : World) : Prop := w.cell? ⟨0, 0, none⟩ = some (.iface 165 (.agg #[.pointer (some ⟨1, 60, none⟩)]))

end Go.Proofs.YthjinpbclfankaaGreatDoor
