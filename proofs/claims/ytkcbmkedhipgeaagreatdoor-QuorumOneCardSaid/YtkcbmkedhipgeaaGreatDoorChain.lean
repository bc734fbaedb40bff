/-
  errors.As and errors.Unwrap at a Fault of package field, by contracts (Go's own text of both is walked): the target is a *Fault: it is found at once; the target is an interface that no Fault has, and nothing lies under the Fault: it is not found.

  errors.As of a Fault, the target a *Fault: it is found at once, and the target is set; four new blocks.

  errors.As of a Fault with nothing under it, the target an interface that no Fault has: it is not found; three new blocks.

  What package field says of errors, by contracts: own, joined and errors.Unwrap at a Fault.

  Chain and Code of an error that is a chain of Faults, of whatever length up to 1000: all numbers, from the outside in; the first one.
-/
import Derived.Test.YtkcbmkedhipgeaaGreatDoorProg
import Derived.WalkKit
import Derived.LaidEql
import Derived.Stop.Asserts
import Derived.RowKitTokens
import Derived.Handy
import Derived.LoopTactic
import Derived.Lib.Hide
namespace Go.Proofs.YtkcbmkedhipgeaaGreatDoor
open Go.RowKit Go.Extern.Stop Go.Stop Go.Extern

/- F: *field.Fault; P: a pointer to that; R: reflectlite's rtype; U: the interface of several errors; Q: a pointer to it. -/
theorem valueOfP (t : Addr) (w : World) : (ReflectliteValue.unpack (.iface 172 (.pointer (some t)))).run Tryz.prog w
    = .ok (.agg #[.pointer (some ⟨2, 172, none⟩), .pointer (some ⟨w.heap.size, 0, none⟩), .int .u64 150]) (w.alloc (.cells #[.pointer (some t)] 172)) := by kernel_rfl
theorem valueOfQ (t : Addr) (w : World) : (ReflectliteValue.unpack (.iface 175 (.pointer (some t)))).run Tryz.prog w
    = .ok (.agg #[.pointer (some ⟨2, 175, none⟩), .pointer (some ⟨w.heap.size, 0, none⟩), .int .u64 150]) (w.alloc (.cells #[.pointer (some t)] 175)) := by kernel_rfl
theorem valueOfF (e : Addr) (w : World) : (ReflectliteValue.unpack (.iface 160 (.pointer (some e)))).run Tryz.prog w
    = .ok (.agg #[.pointer (some ⟨2, 160, none⟩), .pointer (some ⟨w.heap.size, 0, none⟩), .int .u64 150]) (w.alloc (.cells #[.pointer (some e)] 160)) := by kernel_rfl
theorem typeP (a : Addr) (w : World) : (ReflectliteValue.methodAny (ReflectliteValue.valueError "reflectlite.Value.Type" 0) (fun t _ _ _ => ReflectliteType.toType t) #[.agg #[.pointer (some ⟨2, 172, none⟩), .pointer (some a), .int .u64 150]]).run Tryz.prog w
    = .ok (.iface 192 (.agg #[.pointer (some ⟨2, 172, none⟩)])) w := by kernel_rfl
theorem typeQ (a : Addr) (w : World) : (ReflectliteValue.methodAny (ReflectliteValue.valueError "reflectlite.Value.Type" 0) (fun t _ _ _ => ReflectliteType.toType t) #[.agg #[.pointer (some ⟨2, 175, none⟩), .pointer (some a), .int .u64 150]]).run Tryz.prog w
    = .ok (.iface 192 (.agg #[.pointer (some ⟨2, 175, none⟩)])) w := by kernel_rfl
theorem kindP (w : World) : ((ReflectliteType.abiMethod fun t => Functor.map (fun a : Nat => Value.int IntKind.u8 (a : Int)) (Rtype.kind t)) #[.pointer (some ⟨2, 172, none⟩)]).run Tryz.prog w = .ok (.int .u8 22) w := by kernel_rfl
theorem kindQ (w : World) : ((ReflectliteType.abiMethod fun t => Functor.map (fun a : Nat => Value.int IntKind.u8 (a : Int)) (Rtype.kind t)) #[.pointer (some ⟨2, 175, none⟩)]).run Tryz.prog w = .ok (.int .u8 22) w := by kernel_rfl
theorem kindF (w : World) : ((ReflectliteType.abiMethod fun t => Functor.map (fun a : Nat => Value.int IntKind.u8 (a : Int)) (Rtype.kind t)) #[.pointer (some ⟨2, 160, none⟩)]).run Tryz.prog w = .ok (.int .u8 22) w := by kernel_rfl
theorem kindU (w : World) : ((ReflectliteType.abiMethod fun t => Functor.map (fun a : Nat => Value.int IntKind.u8 (a : Int)) (Rtype.kind t)) #[.pointer (some ⟨2, 174, none⟩)]).run Tryz.prog w = .ok (.int .u8 20) w := by kernel_rfl
theorem elemP (w : World) : (ReflectliteType.method ReflectliteType.elem #[.agg #[.pointer (some ⟨2, 172, none⟩)]]).run Tryz.prog w = .ok (.iface 192 (.agg #[.pointer (some ⟨2, 160, none⟩)])) w := by kernel_rfl
theorem elemQ (w : World) : (ReflectliteType.method ReflectliteType.elem #[.agg #[.pointer (some ⟨2, 175, none⟩)]]).run Tryz.prog w = .ok (.iface 192 (.agg #[.pointer (some ⟨2, 174, none⟩)])) w := by kernel_rfl
theorem implementsF (w : World) : (ReflectliteType.relation "Implements" ReflectliteType.implements_ #[.agg #[.pointer (some ⟨2, 160, none⟩)], .iface 192 (.agg #[.pointer (some ⟨2, 114, none⟩)])]).run Tryz.prog w = .ok (.bool true) w := by kernel_rfl
theorem typeOfF (v : Value) (w : World) : (ReflectliteType.typeOf #[.iface 160 v]).run Tryz.prog w = .ok (.iface 192 (.agg #[.pointer (some ⟨2, 160, none⟩)])) w := by kernel_rfl
theorem assignableFF (w : World) : (ReflectliteType.relation "AssignableTo" ReflectliteType.assignableTo #[.agg #[.pointer (some ⟨2, 160, none⟩)], .iface 192 (.agg #[.pointer (some ⟨2, 160, none⟩)])]).run Tryz.prog w = .ok (.bool true) w := by kernel_rfl
theorem descU : (Tryz.prog.info? 174).map (·.desc) = some (.interface #[("Unwrap", 176)]) := by kernel_rfl
theorem noPackMethods_ok {P : Program} {t : TypeId} (what : String) (w : World) (h : P.methodsOfAPack P.depth t = false) : (Rtype.noPackMethods what t).run P w = .ok () w := by
  simp [Rtype.noPackMethods, h]
theorem typeInfo_ok {P : Program} {t : TypeId} {i : TypeInfo} (w : World) (h : P.info? t = some i) : (typeInfo t).run P w = .ok i w := by
  simp [typeInfo, h]
theorem under_ok {P : Program} {t : TypeId} {i : TypeInfo} (w : World) (h : P.info? t = some i) (hn : ∀ q u, i.desc ≠ .named q u) : (Rtype.under t).run P w = .ok (t, i) w := by
  unfold Rtype.under
  simp only [Sem.run_bind, typeInfo_ok w h, Result.andThen]
  rfl
theorem implements_lacks {P : Program} {T V e : TypeId} {want : Array (String × TypeId)} (w : World) (dT : (P.info? T).map (·.desc) = some (.interface want)) (dV : (P.info? V).map (·.desc) = some (.pointer e))
    (p1 : P.methodsOfAPack P.depth V = false) (p2 : P.methodsOfAPack P.depth T = false) (hl : (P.info? V).map (fun i => (lacking want i.methods).isEmpty) = some false) : (Rtype.implements T V).run P w = .ok false w := by
  obtain ⟨iT, hT, dT'⟩ := Option.map_eq_some_iff.1 dT
  obtain ⟨iV, hV, dV'⟩ := Option.map_eq_some_iff.1 dV
  have hl' : lacking want iV.methods ≠ [] := by
    rw [hV] at hl; simp only [Option.map_some, Option.some.injEq] at hl
    intro h; rw [h] at hl; cases hl
  obtain ⟨m, hm⟩ := missingMethod_some hl'
  have uT := under_ok w hT (fun q u h => by rw [dT'] at h; cases h)
  have uV := under_ok w hV (fun q u h => by rw [dV'] at h; cases h)
  have tV := typeInfo_ok w hV
  have n1 := fun s => noPackMethods_ok s w p1
  have n2 := fun s => noPackMethods_ok s w p2
  unfold Rtype.implements
  simp only [Sem.run_bind, n1, n2, uT, uV, Result.andThen, dT', dV', tV, hm, Sem.run_pure, Option.isNone_some]
theorem relationB {P : Program} {what : String} {f : TypeId → TypeId → Sem Bool} {r u : Value} {t : TypeId} {x y : TypeId} {b : Bool} (w : World) (hu : (ReflectliteType.ofRtype u).run P w = .ok x w) (hr : (ReflectliteType.ofRtype r).run P w = .ok y w) (hf : (f x y).run P w = .ok b w) :
    (ReflectliteType.relation what f #[r, .iface t u]).run P w = .ok (.bool b) w := by
  have e : ReflectliteType.relation what f #[r, .iface t u] = (do pure (.bool (← f (← ReflectliteType.ofRtype u) (← ReflectliteType.ofRtype r)))) := rfl
  rw [e]; simp only [Sem.run_bind, hu, hr, hf, Result.andThen, Sem.run_pure]
theorem assignable_not {P : Program} {u t : TypeId} (w : World) (hne : (u != t) = true) (p1 : P.methodsOfAPack P.depth t = false) (p2 : P.methodsOfAPack P.depth u = false) (hd : (Rtype.directlyAssignable u t).run P w = .ok false w) (hi : (Rtype.implements u t).run P w = .ok false w) :
    (ReflectliteType.assignableTo u t).run P w = .ok false w := by
  have n1 := fun s => noPackMethods_ok s w p1
  have n2 := fun s => noPackMethods_ok s w p2
  unfold ReflectliteType.assignableTo
  simp only [hne, if_true, Sem.run_bind, n1, n2, Result.andThen, hd, hi, Sem.run_pure, Bool.or_false]
theorem assignableFU (w : World) : (ReflectliteType.relation "AssignableTo" ReflectliteType.assignableTo #[.agg #[.pointer (some ⟨2, 160, none⟩)], .iface 192 (.agg #[.pointer (some ⟨2, 174, none⟩)])]).run Tryz.prog w = .ok (.bool false) w :=
  relationB (x := 174) (y := 160) w (by kernel_rfl) (by kernel_rfl)
    (assignable_not w rfl (by kernel_rfl) (by kernel_rfl) (by kernel_rfl) (implements_lacks (e := 162) w descU (by kernel_rfl) (by kernel_rfl) (by kernel_rfl) (by kernel_rfl)))
theorem noAsF (v : Value) (xT : TypeId) (w : World) : (Instr.typeAssert (.iface 160 v) xT 197 true).run Tryz.prog w = .ok (.tuple #[.nilIface, .bool false]) w := run_typeAssert_lacksB Tryz.underlying197 (by kernel_rfl) (by kernel_rfl) v xT w
theorem hasUnwrapF (v : Value) (xT : TypeId) (w : World) : (Instr.typeAssert (.iface 160 v) xT 177 true).run Tryz.prog w = .ok (.tuple #[.iface 160 v, .bool true]) w := run_typeAssert_hasB Tryz.underlying177 (by kernel_rfl) v xT w

theorem methodForm (z : Sem Value) (f : TypeId → Addr → Nat → Nat → Sem Value) (v : Value) :
    ∃ rest : Option (TypeId × Addr × Nat) → Sem Value, ReflectliteValue.method z f #[v] = (ReflectliteValue.parts v >>= rest) ∧ ∀ t a fl, rest (some (t, a, fl)) = f t a fl (fl % 32) :=
  ⟨_, rfl, fun _ _ _ => rfl⟩
theorem method_run {P : Program} {W W' : World} {z : Sem Value} {f : TypeId → Addr → Nat → Nat → Sem Value} {v x : Value} {t : TypeId} {a : Addr} {fl : Nat} (hp : (ReflectliteValue.parts v).run P W = .ok (some (t, a, fl)) W) (hf : (f t a fl (fl % 32)).run P W = .ok x W') :
    (ReflectliteValue.method z f #[v]).run P W = .ok x W' := by
  obtain ⟨rest, e, h⟩ := methodForm z f v
  rw [e, Sem.run_bind, hp]
  simp only [Result.andThen, h, hf]
theorem setForm (v x : Value) :
    ∃ rest : Option (TypeId × Addr × Nat) → Option (TypeId × Addr × Nat) → Sem Value, ReflectliteValue.set #[v, x] = (ReflectliteValue.parts v >>= fun p => ReflectliteValue.parts x >>= fun q => rest p q) ∧
      ∀ (P : Program) (W W' : World) dst a fl src b fl2 val, (fl / ReflectliteValue.flagAddr % 2 == 0) = false → (loadVar src b).run P W = .ok val W → (Rtype.directlyAssignable dst src).run P W = .ok true W → (storeVar dst a val).run P W = .ok () W' →
        (rest (some (dst, a, fl)) (some (src, b, fl2))).run P W = .ok (.tuple #[]) W' := by
  refine ⟨_, rfl, ?_⟩
  intro P W W' dst a fl src b fl2 val h1 h2 h3 h4
  simp only [h1, Sem.run_bind, h2, h3, h4, Result.andThen, Bool.false_eq_true, if_false, if_true, Sem.run_pure]
theorem set_run {P : Program} {W W' : World} {v x val : Value} {dst src : TypeId} {a b : Addr} {fl fl2 : Nat} (hv : (ReflectliteValue.parts v).run P W = .ok (some (dst, a, fl)) W) (hx : (ReflectliteValue.parts x).run P W = .ok (some (src, b, fl2)) W)
    (h1 : (fl / ReflectliteValue.flagAddr % 2 == 0) = false) (h2 : (loadVar src b).run P W = .ok val W) (h3 : (Rtype.directlyAssignable dst src).run P W = .ok true W) (h4 : (storeVar dst a val).run P W = .ok () W') :
    (ReflectliteValue.set #[v, x]).run P W = .ok (.tuple #[]) W' := by
  obtain ⟨rest, e, h⟩ := setForm v x
  rw [e, Sem.run_bind, hv]
  simp only [Result.andThen, Sem.run_bind, hx]
  exact h P W W' _ _ _ _ _ _ _ h1 h2 h3 h4
theorem partsP (a : Addr) (w : World) : (ReflectliteValue.parts (.agg #[.pointer (some ⟨2, 172, none⟩), .pointer (some a), .int .u64 150])).run Tryz.prog w = .ok (some (172, a, 150)) w := by kernel_rfl
theorem partsQ (a : Addr) (w : World) : (ReflectliteValue.parts (.agg #[.pointer (some ⟨2, 175, none⟩), .pointer (some a), .int .u64 150])).run Tryz.prog w = .ok (some (175, a, 150)) w := by kernel_rfl
/-- (Value).IsNil at a Value whose pointer is not nil. -/
theorem isNilP (a p : Addr) (W : World) (ha : W.cell? a = some (.pointer (some p))) :
    (ReflectliteValue.method (ReflectliteValue.valueError "reflectlite.Value.IsNil" 0) ReflectliteValue.isNil #[.agg #[.pointer (some ⟨2, 172, none⟩), .pointer (some a), .int .u64 150]]).run Tryz.prog W = .ok (.bool false) W := by
  refine method_run (partsP a W) ?_
  simp [ReflectliteValue.isNil, loadVar, isAgg, underlying, Tryz.underlying172, ha, Result.andThen]
theorem isNilQ (a p : Addr) (W : World) (ha : W.cell? a = some (.pointer (some p))) :
    (ReflectliteValue.method (ReflectliteValue.valueError "reflectlite.Value.IsNil" 0) ReflectliteValue.isNil #[.agg #[.pointer (some ⟨2, 175, none⟩), .pointer (some a), .int .u64 150]]).run Tryz.prog W = .ok (.bool false) W := by
  refine method_run (partsQ a W) ?_
  simp [ReflectliteValue.isNil, loadVar, isAgg, underlying, Tryz.underlying175, ha, Result.andThen]
theorem elemOfP (w : World) : (Rtype.elem? 172).run Tryz.prog w = .ok (some 160) w := by kernel_rfl
theorem mkF (p : Addr) (w : World) : (ReflectliteValue.mk 160 p ReflectliteValue.flagAddr).run Tryz.prog w = .ok (.agg #[.pointer (some ⟨2, 160, none⟩), .pointer (some p), .int .u64 406]) w := by kernel_rfl
/-- (Value).Elem: the Value of the variable that it points to, addressable. -/
theorem elemVP (a p : Addr) (W : World) (ha : W.cell? a = some (.pointer (some p))) :
    (ReflectliteValue.method (ReflectliteValue.valueError "reflectlite.Value.Elem" 0) ReflectliteValue.elem #[.agg #[.pointer (some ⟨2, 172, none⟩), .pointer (some a), .int .u64 150]]).run Tryz.prog W
      = .ok (.agg #[.pointer (some ⟨2, 160, none⟩), .pointer (some p), .int .u64 406]) W := by
  refine method_run (partsP a W) ?_
  simp [ReflectliteValue.elem, loadVar, isAgg, underlying, Tryz.underlying172, ha, Result.andThen, elemOfP, mkF]
theorem partsFa (a : Addr) (w : World) : (ReflectliteValue.parts (.agg #[.pointer (some ⟨2, 160, none⟩), .pointer (some a), .int .u64 406])).run Tryz.prog w = .ok (some (160, a, 406)) w := by kernel_rfl
theorem partsF (a : Addr) (w : World) : (ReflectliteValue.parts (.agg #[.pointer (some ⟨2, 160, none⟩), .pointer (some a), .int .u64 150])).run Tryz.prog w = .ok (some (160, a, 150)) w := by kernel_rfl
theorem directF (w : World) : (Rtype.directlyAssignable 160 160).run Tryz.prog w = .ok true w := by kernel_rfl
/-- (Value).Set: the *Fault variable at 'ta' gets what the Value's own variable 'b' holds. -/
theorem setF (ta b e : Addr) (old : Value) (W : World) (hb : W.cell? b = some (.pointer (some e))) (ht : W.cell? ta = some old) (hf : W.frozen? ta = false) :
    (ReflectliteValue.set #[.agg #[.pointer (some ⟨2, 160, none⟩), .pointer (some ta), .int .u64 406], .agg #[.pointer (some ⟨2, 160, none⟩), .pointer (some b), .int .u64 150]]).run Tryz.prog W
      = .ok (.tuple #[]) (W.setCell ta (.pointer (some e))) := by
  refine set_run (partsFa ta W) (partsF b W) (by kernel_rfl) (val := .pointer (some e)) ?_ (directF W) ?_
  · simp [loadVar, isAgg, underlying, Tryz.underlying160, hb, Result.andThen]
  · simp [storeVar, Value.cells, storeCells, Addr.add, Result.andThen]
    rw [run_store Tryz.prog W ta _ _ (by rfl)]
    simp [ht, hf]

/-- A package-level variable's cell: errors.errorType holds the handle of 'error'. -/
def ErrType (w : World) : Prop := w.cell? ⟨1, 0, none⟩ = some (.iface 192 (.agg #[.pointer (some ⟨2, 114, none⟩)]))

end Go.Proofs.YtkcbmkedhipgeaaGreatDoor

namespace Go.Proofs.YtkcbmkedhipgeaaGreatDoor
open Go.RowKit Go.Extern.Stop Go.Stop Go.Extern

set_option maxHeartbeats 4000000 in
theorem as_hit (e t : Addr) (old : Value) (w : World) (hg : ErrType w) (ht0 : w.cell? t = some old) (hf0 : w.frozen? t = false) :
    Calls Tryz.prog 97 #[.iface 160 (.pointer (some e)), .iface 172 (.pointer (some t))] w fun ev w' => ev = .returned (.bool true) ∧ w' = ((((w.alloc (.cells #[.pointer (some t)] 172)).alloc (.cells #[.pointer (some ⟨2, 172, none⟩), .pointer (some ⟨w.heap.size, 0, none⟩), .int .u64 150] 182)).alloc (.cells #[.pointer (some ⟨2, 172, none⟩), .pointer (some ⟨w.heap.size, 0, none⟩), .int .u64 150] 182)).alloc (.cells #[.pointer (some e)] 160)).setCell t (.pointer (some e)) := by
  unfold ErrType at hg
  have h6 := @run_callFunc_extern Tryz.prog 98 _ (fun args => ReflectliteValue.unpack (args.getD 0 (.tuple #[]))) Tryz.func98 (by kernel_rfl) (by kernel_rfl) (by kernel_rfl) (by kernel_rfl)
  have h7 := @run_callFunc_extern Tryz.prog 99 _ (ReflectliteValue.methodAny (ReflectliteValue.valueError "reflectlite.Value.Type" 0) (fun t _ _ _ => ReflectliteType.toType t)) Tryz.func99 (by kernel_rfl) (by kernel_rfl) (by kernel_rfl) (by kernel_rfl)
  have h8 := @run_callFunc_extern Tryz.prog 100 _ (ReflectliteValue.method (ReflectliteValue.valueError "reflectlite.Value.IsNil" 0) ReflectliteValue.isNil) Tryz.func100 (by kernel_rfl) (by kernel_rfl) (by kernel_rfl) (by kernel_rfl)
  have h27 := @run_callFunc_extern Tryz.prog 119 _ (ReflectliteType.abiMethod fun t => do pure (.int .u8 (← Rtype.kind t))) Tryz.func119 (by kernel_rfl) (by kernel_rfl) (by kernel_rfl) (by kernel_rfl)
  have h37 := @run_callFunc_extern Tryz.prog 133 _ (ReflectliteType.method ReflectliteType.elem) Tryz.func133 (by kernel_rfl) (by kernel_rfl) (by kernel_rfl) (by kernel_rfl)
  have h38 := @run_callFunc_extern Tryz.prog 134 _ (ReflectliteType.relation "Implements" ReflectliteType.implements_) Tryz.func134 (by kernel_rfl) (by kernel_rfl) (by kernel_rfl) (by kernel_rfl)
  have h10 := @run_callFunc_extern Tryz.prog 102 _ ReflectliteType.typeOf Tryz.func102 (by kernel_rfl) (by kernel_rfl) (by kernel_rfl) (by kernel_rfl)
  have h35 := @run_callFunc_extern Tryz.prog 131 _ (ReflectliteType.relation "AssignableTo" ReflectliteType.assignableTo) Tryz.func131 (by kernel_rfl) (by kernel_rfl) (by kernel_rfl) (by kernel_rfl)
  have h11 := @run_callFunc_extern Tryz.prog 103 _ (ReflectliteValue.method (ReflectliteValue.valueError "reflectlite.Value.Elem" 0) ReflectliteValue.elem) Tryz.func103 (by kernel_rfl) (by kernel_rfl) (by kernel_rfl) (by kernel_rfl)
  have h12 := @run_callFunc_extern Tryz.prog 104 _ ReflectliteValue.set Tryz.func104 (by kernel_rfl) (by kernel_rfl) (by kernel_rfl) (by kernel_rfl)
  have tO := typeOfF
  have a25 := assignableFF
  have v25 := valueOfF
  have f6 := valueOfP
  have f7 := typeP
  have k27 := kindP
  have k25 := kindF
  have e27 := elemP
  have i25 := implementsF
  have n8 := isNilP ⟨w.heap.size, 0, none⟩ t ((w.alloc (.cells #[.pointer (some t)] 172)).alloc (.cells #[.pointer (some ⟨2, 172, none⟩), .pointer (some ⟨w.heap.size, 0, none⟩), .int .u64 150] 182)) (by simp)
  have hlt : 1 < w.heap.size := World.block_lt_of_cell? w _ hg
  have hg2 : ((w.alloc (.cells #[.pointer (some t)] 172)).alloc (.cells #[.pointer (some ⟨2, 172, none⟩), .pointer (some ⟨w.heap.size, 0, none⟩), .int .u64 150] 182)).cell? ⟨1, 0, none⟩ = some (.iface 192 (.agg #[.pointer (some ⟨2, 114, none⟩)])) := by
    rw [World.cell?_alloc_lt _ _ ⟨1, 0, none⟩ (Nat.lt_of_lt_of_le hlt (by simp)), World.cell?_alloc_lt _ _ ⟨1, 0, none⟩ hlt]; exact hg
  have htl : t.block < w.heap.size := by
    rcases Nat.lt_or_ge t.block w.heap.size with h | h
    · exact h
    · simp [World.cell?, Array.getElem?_eq_none h] at ht0
  have el := elemVP ⟨w.heap.size, 0, none⟩ t (((w.alloc (.cells #[.pointer (some t)] 172)).alloc (.cells #[.pointer (some ⟨2, 172, none⟩), .pointer (some ⟨w.heap.size, 0, none⟩), .int .u64 150] 182)).alloc (.cells #[.pointer (some ⟨2, 172, none⟩), .pointer (some ⟨w.heap.size, 0, none⟩), .int .u64 150] 182)) (by rw [World.cell?_alloc_lt _ _ ⟨w.heap.size, 0, none⟩ (by simp; omega)]; simp)
  have st := setF t ⟨w.heap.size + 1 + 1 + 1, 0, none⟩ e old ((((w.alloc (.cells #[.pointer (some t)] 172)).alloc (.cells #[.pointer (some ⟨2, 172, none⟩), .pointer (some ⟨w.heap.size, 0, none⟩), .int .u64 150] 182)).alloc (.cells #[.pointer (some ⟨2, 172, none⟩), .pointer (some ⟨w.heap.size, 0, none⟩), .int .u64 150] 182)).alloc (.cells #[.pointer (some e)] 160))
    (by rw [World.cell?_alloc_at _ _ _ _ (by simp)]; rfl)
    (by rw [World.cell?_alloc_lt _ _ t (by simp; omega), World.cell?_alloc_lt _ _ t (by simp; omega), World.cell?_alloc_lt _ _ t (by simp; omega), World.cell?_alloc_lt _ _ t htl]; exact ht0)
    (by rw [World.frozen?_alloc_old _ _ t (by simp; omega), World.frozen?_alloc_old _ _ t (by simp; omega), World.frozen?_alloc_old _ _ t (by simp; omega), World.frozen?_alloc_old _ _ t (Nat.ne_of_lt htl)]; exact hf0)
  go_enter Tryz.func97, Tryz.ntmps97
  go_wp2
  refine wp_loop_rounds 1 ?_
  rw [rounds_succ]
  go_wp2
  go_ret
  exact ⟨rfl, rfl⟩

end Go.Proofs.YtkcbmkedhipgeaaGreatDoor

namespace Go.Proofs.YtkcbmkedhipgeaaGreatDoor
open Go.RowKit Go.Extern.Stop Go.Stop Go.Extern

set_option maxRecDepth 100000 in
set_option maxHeartbeats 4000000 in
theorem as_miss (b o : Nat) (t : Addr) (w : World) (hu : w.cell? ⟨b, o + 2, none⟩ = some .nilIface) :
    Calls Tryz.prog 97 #[.iface 160 (.pointer (some ⟨b, o, none⟩)), .iface 175 (.pointer (some t))] w fun ev w' => ev = .returned (.bool false) ∧ w' = ((w.alloc (.cells #[.pointer (some t)] 175)).alloc (.cells #[.pointer (some ⟨2, 175, none⟩), .pointer (some ⟨w.heap.size, 0, none⟩), .int .u64 150] 182)).alloc (.cells #[.pointer (some ⟨2, 175, none⟩), .pointer (some ⟨w.heap.size, 0, none⟩), .int .u64 150] 182) := by
  have h6 := @run_callFunc_extern Tryz.prog 98 _ (fun args => ReflectliteValue.unpack (args.getD 0 (.tuple #[]))) Tryz.func98 (by kernel_rfl) (by kernel_rfl) (by kernel_rfl) (by kernel_rfl)
  have h7 := @run_callFunc_extern Tryz.prog 99 _ (ReflectliteValue.methodAny (ReflectliteValue.valueError "reflectlite.Value.Type" 0) (fun t _ _ _ => ReflectliteType.toType t)) Tryz.func99 (by kernel_rfl) (by kernel_rfl) (by kernel_rfl) (by kernel_rfl)
  have h8 := @run_callFunc_extern Tryz.prog 100 _ (ReflectliteValue.method (ReflectliteValue.valueError "reflectlite.Value.IsNil" 0) ReflectliteValue.isNil) Tryz.func100 (by kernel_rfl) (by kernel_rfl) (by kernel_rfl) (by kernel_rfl)
  have h27 := @run_callFunc_extern Tryz.prog 119 _ (ReflectliteType.abiMethod fun t => do pure (.int .u8 (← Rtype.kind t))) Tryz.func119 (by kernel_rfl) (by kernel_rfl) (by kernel_rfl) (by kernel_rfl)
  have h37 := @run_callFunc_extern Tryz.prog 133 _ (ReflectliteType.method ReflectliteType.elem) Tryz.func133 (by kernel_rfl) (by kernel_rfl) (by kernel_rfl) (by kernel_rfl)
  have h10 := @run_callFunc_extern Tryz.prog 102 _ ReflectliteType.typeOf Tryz.func102 (by kernel_rfl) (by kernel_rfl) (by kernel_rfl) (by kernel_rfl)
  have h35 := @run_callFunc_extern Tryz.prog 131 _ (ReflectliteType.relation "AssignableTo" ReflectliteType.assignableTo) Tryz.func131 (by kernel_rfl) (by kernel_rfl) (by kernel_rfl) (by kernel_rfl)
  have tO := typeOfF
  have aFU := assignableFU
  have f6 := valueOfQ
  have f7 := typeQ
  have kQ := kindQ
  have kU := kindU
  have eQ := elemQ
  have nA := noAsF
  have hU := hasUnwrapF
  have n8 := isNilQ ⟨w.heap.size, 0, none⟩ t ((w.alloc (.cells #[.pointer (some t)] 175)).alloc (.cells #[.pointer (some ⟨2, 175, none⟩), .pointer (some ⟨w.heap.size, 0, none⟩), .int .u64 150] 182)) (by simp)
  have hbl : b < w.heap.size := by
    rcases Nat.lt_or_ge b w.heap.size with h | h
    · exact h
    · simp [World.cell?, Array.getElem?_eq_none h] at hu
  have hu3 : (((w.alloc (.cells #[.pointer (some t)] 175)).alloc (.cells #[.pointer (some ⟨2, 175, none⟩), .pointer (some ⟨w.heap.size, 0, none⟩), .int .u64 150] 182)).alloc (.cells #[.pointer (some ⟨2, 175, none⟩), .pointer (some ⟨w.heap.size, 0, none⟩), .int .u64 150] 182)).cell? ⟨b, o + 2, none⟩ = some .nilIface := by
    rw [World.cell?_alloc_lt _ _ ⟨b, o + 2, none⟩ (by simp; omega), World.cell?_alloc_lt _ _ ⟨b, o + 2, none⟩ (by simp; omega), World.cell?_alloc_lt _ _ ⟨b, o + 2, none⟩ hbl]; exact hu
  go_enter Tryz.func97, Tryz.ntmps97
  go_wp2
  refine wp_loop_rounds 1 ?_
  rw [rounds_succ]
  go_wp2
  go_ret
  exact ⟨rfl, rfl⟩
end Go.Proofs.YtkcbmkedhipgeaaGreatDoor

namespace Go.Proofs.YtkcbmkedhipgeaaGreatDoor
open Go.RowKit Go.Extern.Stop Go.Stop Go.Extern

/-- Two pointers to one Fault, as errors, are one. -/
theorem eqFF (a : Addr) (w : World) : (binOp .eql 114 (.iface 160 (.pointer (some a))) (.iface 160 (.pointer (some a)))).run Tryz.prog w = .ok (.bool true) w := by
  obtain ⟨i, hi, hc⟩ := Option.map_eq_some_iff.1 (show (Tryz.prog.info? 160).map (·.comparable) = some true by kernel_rfl)
  obtain ⟨j, hj, _⟩ := Option.map_eq_some_iff.1 (show (Tryz.prog.info? 162).map (·.comparable) = some true by kernel_rfl)
  exact run_eql_iface_ptr_same w a Tryz.underlying114 Tryz.underlying160 hi hc hj

/-- errors.As, the target a *Fault variable in block n: what lies below block n is as it was. -/
theorem as_hit_below (e : Addr) (n : Nat) (old : Value) (w : World) (hg : ErrType w) (ht0 : w.cell? ⟨n, 0, none⟩ = some old) (hf0 : w.frozen? ⟨n, 0, none⟩ = false) :
    Calls Tryz.prog 97 #[.iface 160 (.pointer (some e)), .iface 172 (.pointer (some ⟨n, 0, none⟩))] w fun ev w' => ev = .returned (.bool true) ∧ w'.cell? ⟨n, 0, none⟩ = some (.pointer (some e)) ∧ Below n w w' := by
  have hn : n < w.heap.size := by
    rcases Nat.lt_or_ge n w.heap.size with h | h
    · exact h
    · simp [World.cell?, Array.getElem?_eq_none h] at ht0
  refine (as_hit e ⟨n, 0, none⟩ old w hg ht0 hf0).mono fun ev w' ⟨he, hw⟩ => ⟨he, ?_, ?_⟩
  · subst hw
    have h4 : (((((w.alloc (.cells #[.pointer (some ⟨n, 0, none⟩)] 172)).alloc (.cells #[.pointer (some ⟨2, 172, none⟩), .pointer (some ⟨w.heap.size, 0, none⟩), .int .u64 150] 182)).alloc (.cells #[.pointer (some ⟨2, 172, none⟩), .pointer (some ⟨w.heap.size, 0, none⟩), .int .u64 150] 182)).alloc (.cells #[.pointer (some e)] 160))).cell? ⟨n, 0, none⟩ = some old := by
      rw [World.cell?_alloc_lt _ _ ⟨n, 0, none⟩ (by simp; omega), World.cell?_alloc_lt _ _ ⟨n, 0, none⟩ (by simp; omega), World.cell?_alloc_lt _ _ ⟨n, 0, none⟩ (by simp; omega), World.cell?_alloc_lt _ _ ⟨n, 0, none⟩ hn]; exact ht0
    exact World.cell?_setCell_same _ _ _ h4
  · subst hw
    exact (((((Below.refl n w).alloc (by omega) _).alloc (by simp; omega) _).alloc (by simp; omega) _).alloc (by simp; omega) _).setCell (Nat.le_refl _) _

/-- errors.Unwrap of a Fault: what lies under it. -/
theorem unwrap_fault (b o : Nat) (u : Value) (w : World) (hu : w.cell? ⟨b, o + 2, none⟩ = some u) :
    Calls Tryz.prog 96 #[.iface 160 (.pointer (some ⟨b, o, none⟩))] w fun ev w' => ev = .returned u ∧ w' = w := by
  have hU := hasUnwrapF
  go_enter Tryz.func96, Tryz.ntmps96
  go_wp2
  go_ret
  exact ⟨rfl, rfl⟩

/-- own: a Fault's number, and true. -/
theorem own_fault (b o : Nat) (E : Int) (w : World) (hg : ErrType w) (hE : w.cell? ⟨b, o, none⟩ = some (.int .i64 E)) :
    Calls Tryz.prog 94 #[.iface 160 (.pointer (some ⟨b, o, none⟩))] w fun ev w' => ev = .returned (.tuple #[.int .i64 E, .bool true]) ∧ Below w.heap.size w w' := by
  have hq := eqFF
  have hbl : b < w.heap.size := by
    rcases Nat.lt_or_ge b w.heap.size with h | h
    · exact h
    · simp [World.cell?, Array.getElem?_eq_none h] at hE
  have hz : 1 < w.heap.size := World.block_lt_of_cell? w _ hg
  have HG := hg
  go_enter Tryz.func94, Tryz.ntmps94
  go_wp2_with fail
  go_at_call 97
  refine (as_hit_below ⟨b, o, none⟩ w.heap.size (.pointer none) _ ?_ ?_ ?_).mono ?_
  · unfold ErrType; rw [World.cell?_alloc_lt _ _ ⟨1, 0, none⟩ hz]; exact HG
  · simp
  · simp
  rintro ev w' ⟨rfl, hc, hb⟩
  have hE' : w'.cell? ⟨b, o, none⟩ = some (.int .i64 E) := by
    rw [hb.cell (p := ⟨b, o, none⟩) hbl, World.cell?_alloc_lt _ _ ⟨b, o, none⟩ hbl]; exact hE
  go_wp2
  go_ret2
  exact ⟨rfl, ((Below.refl _ _).alloc (Nat.le_refl _) _).trans hb⟩

/-- joined: nothing, whether nothing lies under the Fault or a Fault does. -/
theorem joined_bare (b o : Nat) (w : World) (hu : w.cell? ⟨b, o + 2, none⟩ = some .nilIface) :
    Calls Tryz.prog 95 #[.iface 160 (.pointer (some ⟨b, o, none⟩))] w fun ev w' => ev = .returned (.slice none 0 0) ∧ Below w.heap.size w w' := by
  have hbl : b < w.heap.size := by
    rcases Nat.lt_or_ge b w.heap.size with h | h
    · exact h
    · simp [World.cell?, Array.getElem?_eq_none h] at hu
  have hu1 : ∀ x, (w.alloc x).cell? ⟨b, o + 2, none⟩ = some .nilIface := fun x => by rw [World.cell?_alloc_lt _ _ ⟨b, o + 2, none⟩ hbl]; exact hu
  go_enter Tryz.func95, Tryz.ntmps95
  go_wp2_with (first
    | (go_at_call 96; refine (unwrap_fault _ _ .nilIface _ (hu1 _)).mono ?_; rintro ev w' ⟨rfl, rfl⟩)
    | (go_at_call 97; refine (as_miss _ _ _ _ (hu1 _)).mono ?_; rintro ev w' ⟨rfl, rfl⟩))
  go_ret
  exact ⟨rfl, by go_grown⟩
theorem joined_over (b o : Nat) (t : TypeId) (u : Value) (w : World) (hu : w.cell? ⟨b, o + 2, none⟩ = some (.iface t u)) :
    Calls Tryz.prog 95 #[.iface 160 (.pointer (some ⟨b, o, none⟩))] w fun ev w' => ev = .returned (.slice none 0 0) ∧ Below w.heap.size w w' := by
  have hbl : b < w.heap.size := by
    rcases Nat.lt_or_ge b w.heap.size with h | h
    · exact h
    · simp [World.cell?, Array.getElem?_eq_none h] at hu
  have hu1 : ∀ x, (w.alloc x).cell? ⟨b, o + 2, none⟩ = some (.iface t u) := fun x => by rw [World.cell?_alloc_lt _ _ ⟨b, o + 2, none⟩ hbl]; exact hu
  go_enter Tryz.func95, Tryz.ntmps95
  go_wp2_with (go_at_call 96; refine (unwrap_fault _ _ (.iface t u) _ (hu1 _)).mono ?_; rintro ev w' ⟨rfl, rfl⟩)
  go_ret
  exact ⟨rfl, by go_grown⟩
end Go.Proofs.YtkcbmkedhipgeaaGreatDoor

namespace Go.Proofs.YtkcbmkedhipgeaaGreatDoor
open Go.RowKit Go.Extern.Stop Go.Stop Go.Extern

/-- The error v is nothing, or a Fault in memory on such an error: es are the numbers, from the outside in. -/
def Chained (w : World) : Value → List Int → Prop
  | v, [] => v = .nilIface
  | v, e :: es => ∃ b o u, v = .iface 160 (.pointer (some ⟨b, o, none⟩)) ∧ w.cell? ⟨b, o, none⟩ = some (.int .i64 e) ∧ w.cell? ⟨b, o + 2, none⟩ = some u ∧ Chained w u es

theorem cell_lt {w : World} {b o : Nat} {v : Value} (h : w.cell? ⟨b, o, none⟩ = some v) : b < w.heap.size := by
  rcases Nat.lt_or_ge b w.heap.size with h1 | h1
  · exact h1
  · simp [World.cell?, Array.getElem?_eq_none h1] at h

theorem Chained.below {w w' : World} (hb : Below w.heap.size w w') : ∀ {es : List Int} {v : Value}, Chained w v es → Chained w' v es
  | [], _, h => h
  | _ :: _, _, ⟨b, o, u, hv, he, hu, hr⟩ => ⟨b, o, u, hv, by rw [hb.cell (p := ⟨b, o, none⟩) (cell_lt he)]; exact he, by rw [hb.cell (p := ⟨b, o + 2, none⟩) (cell_lt hu)]; exact hu, hr.below hb⟩

theorem ErrType.below {w w' : World} (hg : ErrType w) (hb : Below w.heap.size w w') : ErrType w' := by
  unfold ErrType at *
  rw [hb.cell (p := ⟨1, 0, none⟩) (cell_lt hg)]; exact hg

theorem ownsRow_below {w w' : World} (hb : Below w.heap.size w w') {base : Nat} {e : TypeId} {size : Nat} {v : Value} {n : Nat} {xs : List Value} (h : w.ownsRow base e size v n xs) : w'.ownsRow base e size v n xs := by
  obtain ⟨h1, h2⟩ := h
  refine ⟨h1, ?_⟩
  rcases h2 with h2 | ⟨g, cap, cur, hv, hg, hh, r⟩
  · exact Or.inl h2
  · refine Or.inr ⟨g, cap, cur, hv, hg, ?_, r⟩
    have hlt : g < w.heap.size := by
      rcases Nat.lt_or_ge g w.heap.size with h1 | h1
      · exact h1
      · simp [Array.getElem?_eq_none h1] at hh
    rw [hb.block g hlt]; exact hh

/-- joined of a Fault on whatever lies under it. -/
theorem joined_any (b o : Nat) (u : Value) (es : List Int) (w : World) (hu : w.cell? ⟨b, o + 2, none⟩ = some u) (hc : Chained w u es) :
    Calls Tryz.prog 95 #[.iface 160 (.pointer (some ⟨b, o, none⟩))] w fun ev w' => ev = .returned (.slice none 0 0) ∧ Below w.heap.size w w' := by
  cases es with
  | nil => cases hc; exact joined_bare b o w hu
  | cons e es => obtain ⟨b', o', u', rfl, _⟩ := hc; exact joined_over b o _ _ w hu

theorem infoErrno : (Tryz.prog.info? 44).map (fun i => (i.zero, i.size, i.bytes)) = some (some (.int .i64 0), 1, 8) := by kernel_rfl

set_option maxRecDepth 100000 in
set_option maxHeartbeats 2000000 in
theorem follow_chain (v : Value) (es : List Int) (w : World) (hg : ErrType w) (hc : Chained w v es) (hl : es.length ≤ 1000) :
    Calls Tryz.prog 93 #[.slice none 0 0, v, .int .i64 0] w fun ev w' => ∃ s, ev = .returned s ∧ w'.ownsRow w.heap.size 44 1 s es.length (es.map (Value.int .i64)) ∧ Below w.heap.size w w' := by
  obtain ⟨i0, hi, hz0, hz1, hz2⟩ := info_parts infoErrno
  have HG := Lib.hid hg
  go_enter Tryz.func93, Tryz.ntmps93
  go_wp2
  go_loopw [0, 1, 2] (fun s e lv wr => ∃ ds rs : List Int, ds ++ rs = es ∧ lv = .int .i64 ds.length ∧ wr.ownsRow w.heap.size 44 1 s ds.length (ds.map (Value.int .i64)) ∧ Chained w e rs ∧ Below w.heap.size w wr) (fun _ _ lv _ => 1001 - (intOf lv).toNat)
  case atStart => exact ⟨[], es, rfl, rfl, World.ownsRow_nil _ _ _ _, hc, Below.refl _ _⟩
  case round =>
    obtain ⟨ds, rs, hes, rfl, hown, hch, hb⟩ := hrel
    have hdl : ds.length + rs.length ≤ 1000 := by rw [← hes] at hl; simpa using hl
    have HES := Lib.hid hes
    clear hes hc
    cases rs with
    | nil =>
      cases hch
      go_wp2
      go_ret
      refine ⟨_, rfl, ?_, hb⟩
      have := HES.out; simp at this; subst this; exact hown
    | cons x rs =>
      obtain ⟨b, o, u, rfl, he, hu, hr⟩ := hch
      have hd : (ds.length : Int) < 131072 := by simp at hdl; omega
      have hE1 : wr.cell? ⟨b, o, none⟩ = some (.int .i64 x) := by rw [hb.cell (p := ⟨b, o, none⟩) (cell_lt he)]; exact he
      have HU := Lib.hid hu
      have HR := Lib.hid hr
      have HB := Lib.hid hb
      clear hu hr he
      go_wp2_with fail
      go_at_call 94
      refine (own_fault b o x wr (HG.out.below hb) hE1).mono ?_
      rintro ev w1 ⟨rfl, hb1⟩
      have hown1 := ownsRow_below hb1 hown
      clear hown hE1
      have hbz := hb.size
      have hbz1 := hb1.size
      go_wp2_with (at_builtin; refine wpList_append_own _ rfl (.tmp 25) (.tmp 27) 158 rfl w.heap.size 44 i0 (.int .i64 0) 1 8 Tryz.underlying158 hi hz0 hz1 hz2 rfl (by decide) _ _ _ rfl (hown1.alloc _) ⟨w1.heap.size, 0, none⟩ 1 1 [.int .i64 x] rfl rfl ?c1 ?c2 ?c3 ?c4 ?c5 ?_)
      case c1 =>
        intro j u hj
        match j, hj with
        | 0, hj => simp at hj; subst hj; simp [Addr.add]
      case c2 => intro u hu; simp at hu; subst hu; rfl
      case c3 => unfold maxLen; simp at hdl; omega
      case c4 => simp at hdl; omega
      case c5 => simp; omega
      · intro v' w2 hown2 hgrow _
        have hb2 : Below w.heap.size w w2 := by
          refine Below.grown ((HB.out.trans (hb1.mono hbz)).alloc (by omega) _) hgrow (by simp; omega) ?_
          intro k hk
          exact (hown1.lt k hk).1
        have hu2 : w2.cell? ⟨b, o + 2, none⟩ = some u := by rw [hb2.cell (p := ⟨b, o + 2, none⟩) (cell_lt HU.out)]; exact HU.out
        have hr2 := HR.out.below hb2
        have HR2 := Lib.hid hr2
        have HB2 := Lib.hid hb2
        clear hown1 hgrow hb1 hb hr2 hb2
        go_wp2_with fail
        go_at_call 95
        refine (joined_any b o u rs w2 hu2 HR2.out).mono ?_
        rintro ev w3 ⟨rfl, hb3⟩
        have hown3 := ownsRow_below hb3 hown2
        have hz3 := hb3.size
        have hz2 := HB2.out.size
        have hb3' : Below w.heap.size w w3 := HB2.out.trans (hb3.mono hz2)
        have hu3 : w3.cell? ⟨b, o + 2, none⟩ = some u := by rw [hb3'.cell (p := ⟨b, o + 2, none⟩) (cell_lt HU.out)]; exact HU.out
        have HB3 := Lib.hid hb3'
        clear hown2 hb3 hb3' hu2
        go_wp2
        refine wp_loop_rounds 1 ?_
        rw [rounds_succ]
        go_wp2_with (go_at_call 96; refine (unwrap_fault b o u _ hu3).mono ?_; rintro ev w4 ⟨rfl, rfl⟩)
        go_roundw
        case rel => exact ⟨ds ++ [x], rs, by simpa using HES.out, by simp, by simpa using hown3, HR.out, HB3.out⟩
        case measure => simp at hdl; simp [intOf]; omega
/-- Chain of a chain of Faults: its numbers, in memory of its own. -/
theorem chain_any (v : Value) (es : List Int) (w : World) (hg : ErrType w) (hc : Chained w v es) (hl : es.length ≤ 1000) :
    Calls Tryz.prog 92 #[v] w fun ev w' => ∃ s, ev = .returned s ∧ w'.ownsRow w.heap.size 44 1 s es.length (es.map (Value.int .i64)) ∧ Below w.heap.size w w' := by
  go_enter Tryz.func92, Tryz.ntmps92
  go_wp2_with (go_at_call 93; refine (follow_chain v es _ hg hc hl).mono ?_; rintro ev w' ⟨s, rfl, hown, hb⟩)
  go_ret
  exact ⟨s, rfl, hown, hb⟩
/-- What an owned slice of numbers is: nil, or a row whose first cells are they. -/
theorem owned_form {w : World} {base : Nat} {e : TypeId} {s : Value} {n : Nat} {xs : List Value} (h : w.ownsRow base e 1 s n xs) :
    (s = .slice none 0 0 ∧ xs = [] ∧ n = 0) ∨ ∃ g cap, s = .slice (some ⟨g, 0, none⟩) n cap ∧ ∀ j u, xs[j]? = some u → w.cell? ⟨g, j, none⟩ = some u := by
  have h' := h
  obtain ⟨h1, h2 | ⟨g, cap, cur, hv, hg, hh, r⟩⟩ := h
  · obtain ⟨rfl, rfl⟩ := h2
    refine .inl ⟨rfl, ?_, rfl⟩
    cases xs with
    | nil => rfl
    | cons x xs => simp at h1
  · refine .inr ⟨g, cap, hv, fun j u hu => ?_⟩
    have := h'.cells (g := g) (by rw [hv]; rfl) j u hu
    have e : (⟨g, 0, none⟩ : Addr).add j = ⟨g, j, none⟩ := by
      by_cases hj : j = 0 <;> simp [Addr.add, hj]
    rw [e] at this; exact this
/-- Code of a chain of Faults: the first number, or 0. -/
theorem code_any (v : Value) (es : List Int) (w : World) (hg : ErrType w) (hc : Chained w v es) (hl : es.length ≤ 1000) :
    Calls Tryz.prog 88 #[v] w fun ev w' => ev = .returned (.int .i64 (es.headD 0)) ∧ Below w.heap.size w w' := by
  have HG := Lib.hid hg
  have HC := Lib.hid hc
  clear hg hc
  go_enter Tryz.func88, Tryz.ntmps88
  go_wp2_with fail
  go_at_call 92
  refine (chain_any v es w HG.out HC.out hl).mono ?_
  rintro ev w' ⟨s, rfl, hown, hb⟩
  have HB := Lib.hid hb
  clear hb
  cases es with
  | nil =>
    rcases owned_form hown with ⟨rfl, _, _⟩ | ⟨g, cap, rfl, _⟩
    · clear hown
      go_wp2
      go_ret
      exact ⟨rfl, HB.out⟩
    · clear hown
      go_wp2
      go_ret
      exact ⟨rfl, HB.out⟩
  | cons e es =>
    rcases owned_form hown with ⟨_, h, _⟩ | ⟨g, cap, rfl, hcell⟩
    · simp at h
    · have h0 := hcell 0 (.int .i64 e) rfl
      have hlen : (0 : Int) < ((e :: es).length : Int) := by simp
      clear hown hcell
      go_wp2
      go_ret
      exact ⟨rfl, HB.out⟩
end Go.Proofs.YtkcbmkedhipgeaaGreatDoor
