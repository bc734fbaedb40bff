/-
  append as an equation at a walk's own step, for the two kinds of rows that the document's own has.
-/
import Derived.Test.YtacdbfaoeioflaaGreatDoorRlittle
import Derived.Deep.DrawnRows
namespace Go.Proofs.YtacdbfaoeioflaaGreatDoor
open Go.RowKit

section
variable {P : Program}
/-- What append answers, and the world that it leaves. -/
def appV (P : Program) (t : TypeId) (w : World) (v x : Value) : Value := match (Builtin.append_ #[t, t] t #[v, x]).run P w with
  | .ok u _ => u
  | _ => undef
def appW (P : Program) (t : TypeId) (w : World) (v x : Value) : World := match (Builtin.append_ #[t, t] t #[v, x]).run P w with
  | .ok _ w' => w'
  | _ => w
def AppS (P : Program) (t : TypeId) (w : World) (v x : Value) : Prop := (Builtin.append_ #[t, t] t #[v, x]).run P w = .ok (appV P t w v x) (appW P t w v x)
theorem app_of {t : TypeId} {w w' : World} {v x u : Value} (h : (Builtin.append_ #[t, t] t #[v, x]).run P w = .ok u w') : AppS P t w v x ∧ appV P t w v x = u ∧ appW P t w v x = w' := by
  unfold AppS appV appW
  rw [h]
  exact ⟨rfl, rfl, rfl⟩
theorem wp_appL {d : Option Tmp} {s x : Operand} {t : TypeId} {pos : String} {after : Array Edge} {g : Option (Nat × Bool)} {a : Act} {w : World} {K : Act → World → Prop} {Q : Exit → Act → World → Prop} (h : AppS P t w (a.eval s) (a.eval x)) :
    Oper.wp P { dst := d, op := .call { callee := .builtin .append, args := #[s, x], argTypes := #[t, t] }, type := t, pos := pos, after := after, guard := g } a w K Q = K (a.put d (appV P t w (a.eval s) (a.eval x))) (appW P t w (a.eval s) (a.eval x)) := by
  unfold AppS at h
  unfold Oper.wp execOp
  simp only [resolve, invoke, builtin, Sem.run_bind, Sem.run_pure, Result.andThen_ok, List.map_toArray, List.map_cons, List.map_nil, h]
  rfl
end
end Go.Proofs.YtacdbfaoeioflaaGreatDoor
