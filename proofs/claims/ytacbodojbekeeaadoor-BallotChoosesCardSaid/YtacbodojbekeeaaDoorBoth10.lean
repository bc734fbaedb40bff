/-
  An acceptor of the program beside the document's own, where other memory turns; the same votes.
-/
import Derived.Test.YtacbodojbekeeaaDoorShown10
import Derived.Test.YtacbodojbekeeaaDoorSame10
import Derived.Test.YtacbodojbekeeaaDoorSaving
import Derived.Test.YtacbodojbekeeaaDoorRsave
import Derived.Test.YtacbodojbekeeaaDoorRprog3
import Derived.Test.YtacbodojbekeeaaDoorRload
namespace Go.Proofs.YtacbodojbekeeaaDoor
open Go.RowKit

theorem PA.below {w w' : World} {a : Nat} {A : Acc} (h : PA w a A) (hb : Below w.heap.size w w') : PA w' a A := ⟨h.pc.below hb, h.good⟩
theorem RA.below {w w' : World} {r : Nat} {A : Acc} (h : RA w r A) (hb : Below w.heap.size w w') : RA w' r A := ⟨h.rc.below hb, h.good⟩
theorem PA.lt {w : World} {a : Nat} {A : Acc} (h : PA w a A) : a < w.heap.size := h.pc.lt
theorem same10_yes {w : World} {b1 b2 : Nat} {v1 v2 : Value} {l : List V} (h1 : OwnsV 46 w b1 v1 l) (h2 : OwnsV 46 w b2 v2 l) (hl : l.length ≤ 100000) :
    Calls Tryd.prog 15 #[v1, v2] w fun e w' => e = .returned (.bool true) ∧ Below w.heap.size w w' := by
  have := same10_any h1 h2 hl
  rw [decide_eq_true rfl] at this
  exact this
/-- The document's own acceptor has turned: the program's stays; and the other way round. -/
theorem PA.fbR {w w' : World} {a r : Nat} {A : Acc} {p : Int} {l : List V} (h : PA w a A) (hr : RC w r p l) (hf : Fb r w w') : PA w' a A := by
  obtain ⟨f, hrow⟩ := hr.row
  obtain ⟨g, harow⟩ := h.pc.row
  exact ⟨h.pc.fb hrow (by decide) (row_ne harow hrow (by decide)) hf, h.good⟩
theorem RC.fbA {w w' : World} {a r : Nat} {A : Acc} {p : Int} {l : List V} (h : RC w r p l) (ha : PA w a A) (hf : Fb a w w') : RC w' r p l := by
  obtain ⟨f, hrow⟩ := h.row
  obtain ⟨g, harow⟩ := ha.pc.row
  exact h.fb harow (by decide) (row_ne hrow harow (by decide)) hf
/-- Another acceptor of the program has turned. -/
theorem PA.fbB {w w' : World} {a b : Nat} {A B : Acc} (h : PA w a A) (hb : PA w b B) (hne : a ≠ b) (hf : Fb b w w') : PA w' a A := by
  obtain ⟨g, hrow⟩ := hb.pc.row
  exact ⟨h.pc.fb hrow (by decide) hne hf, h.good⟩
theorem OwnsV.fbA {e : TypeId} {w w' : World} {base a : Nat} {v : Value} {l : List V} {A : Acc} (h : OwnsV e w base v l) (ha : PA w a A) (he : e ≠ 71) (hf : Fb a w w') : OwnsV e w' base v l := by
  obtain ⟨g, hrow⟩ := ha.pc.row
  exact h.fb hrow he hf
theorem OwnsV.fbR {e : TypeId} {w w' : World} {base r : Nat} {v : Value} {l k : List V} {p : Int} (h : OwnsV e w base v l) (hr : RC w r p k) (he : e ≠ 30) (hf : Fb r w w') : OwnsV e w' base v l := by
  obtain ⟨g, hrow⟩ := hr.row
  exact h.fb hrow he hf
/-- A step's block: neither acceptor is it. -/
theorem AS.fbA {w w' : World} {b a : Nat} {x : Stp} {A : Acc} (h : AS w b x) (ha : PA w a A) (hf : Fb a w w') : AS w' b x := by
  obtain ⟨g, cs, h2, -⟩ := ha.pc.row
  exact h.of_block (hf.block b h.lt (type_ne h h2 (by decide)) (by simp))
theorem AS.fbR {w w' : World} {b r : Nat} {x : Stp} {p : Int} {l : List V} (h : AS w b x) (hr : RC w r p l) (hf : Fb r w w') : AS w' b x := by
  obtain ⟨g, cs, h2, -⟩ := hr.row
  exact h.of_block (hf.block b h.lt (type_ne h h2 (by decide)) (by simp))
end Go.Proofs.YtacbodojbekeeaaDoor
