/-
  A range over a map of alarms: the step, in words of the list; what is left to come.
-/
import Derived.Test.YtcanagecdniiiaaTimers
namespace Go.Proofs.Ytcanagecdniiiaa
open Go.RowKit Go.WideShapes

/-- Is the alarm x still to come? -/
@[reducible] def lf (left : Lit → Bool) (x : Al) : Bool := left (kl x.n x.t)
/-- The range is under way: of the alarms l those are still to come that 'left' tells. -/
def Rg (w : World) (mb r n : Nat) (l : List Al) (left : Lit → Bool) (cnt : Nat) : Prop :=
  ∃ D, w.ranges Try.prog 59 elA mb r n D left cnt ∧ Is D l ∧ Good l ∧ ∀ kl, left kl = true → Maps.has D kl = true
theorem Rg.left_eq {w : World} {mb r n : Nat} {l : List Al} {left : Lit → Bool} {cnt : Nat} (h : Rg w mb r n l left cnt) : w.rangeLeft mb r = cnt := by obtain ⟨D, h, _⟩ := h; exact h.left_eq
theorem Rg.good {w : World} {mb r n : Nat} {l : List Al} {left : Lit → Bool} {cnt : Nat} (h : Rg w mb r n l left cnt) : Good l := by obtain ⟨D, _, _, h, _⟩ := h; exact h
theorem Rg.tm {w : World} {mb r n : Nat} {l : List Al} {left : Lit → Bool} {cnt : Nat} (h : Rg w mb r n l left cnt) : Tm w mb l := by
  obtain ⟨D, h, hI, hG, _⟩ := h
  exact ⟨D, hI.size ▸ tight h.owns, hI, hG⟩
theorem Rg.lt {w : World} {mb r n : Nat} {l : List Al} {left : Lit → Bool} {cnt : Nat} (h : Rg w mb r n l left cnt) : r < w.heap.size := by obtain ⟨D, h, _⟩ := h; exact h.lt
theorem Rg.kept {w w' : World} {mb r n : Nat} {l : List Al} {left : Lit → Bool} {cnt : Nat} {row : Option Nat} (h : Rg w mb r n l left cnt) (hg : w.grownBy w' row) (h1 : some mb ≠ row) (h2 : some r ≠ row) : Rg w' mb r n l left cnt := by
  obtain ⟨D, h, k⟩ := h
  exact ⟨D, h.kept hg h1 h2, k⟩
theorem Rg.below {w w' : World} {mb r n : Nat} {l : List Al} {left : Lit → Bool} {cnt : Nat} (h : Rg w mb r n l left cnt) (hb : Below w.heap.size w w') : Rg w' mb r n l left cnt := h.kept (grown_of_below hb none) (by simp) (by simp)
/-- A row of cells is no iterator, and no map. -/
theorem Rg.ne_row {w : World} {mb r n : Nat} {l : List Al} {left : Lit → Bool} {cnt base : Nat} {e : TypeId} {v : Value} {k : List Al} (h : Rg w mb r n l left cnt) (ho : Owns e w base v k) : some r ≠ v.ownBlock ∧ some mb ≠ v.ownBlock := by
  obtain ⟨D, ⟨es, clock, since, seen, c0, hb, _, _, _, hr, _⟩, _⟩ := h
  rcases ho.2 with ⟨rfl, _⟩ | ⟨g, cap, cur, rfl, _, hg, _⟩
  · simp [Value.ownBlock]
  · constructor
    · intro e1
      have : r = g := by simpa [Value.ownBlock] using e1
      subst this
      rw [hr] at hg; cases hg
    · intro e1
      have : mb = g := by simpa [Value.ownBlock] using e1
      subst this
      rw [hb] at hg; cases hg
/-- Nothing is to come that is not there. -/
theorem Rg.there {w : World} {mb r n : Nat} {l : List Al} {left : Lit → Bool} {cnt : Nat} (h : Rg w mb r n l left cnt) {x : Al} (hx : x.ok) (hl : lf left x = true) : hasA l x.n x.t = true := by
  obtain ⟨D, _, hI, _, hL⟩ := h
  rw [← hI.has _ _ hx.n64 hx.t64]; exact hL _ hl

/-- The others are to come as they were. -/
theorem struck_other {l : List Al} (hG : Good l) {left left' : Lit → Bool} {x y : Al} (hx : x ∈ l) (hy : y ∈ l) (e : left' = fun z => left z && !z.sameKey (kl y.n y.t)) (hne : x ≠ y) : lf left' x = lf left x := by
  have h1 := hG.all x hx
  have h2 := hG.all y hy
  subst e
  show (left _ && !(kl x.n x.t).sameKey (kl y.n y.t)) = _
  rw [Maps.sameKey_ne (fun e => hne ?_)]
  · simp
  · obtain ⟨q1, q2⟩ := kl_inj h1.n64 h1.t64 h2.n64 h2.t64 e
    exact key_unique hG hx hy q1 q2
/-- 'delete(m, k)' of the one that has just come. -/
theorem Rg.drop {w : World} {mb r n : Nat} {l : List Al} {left left' : Lit → Bool} {cnt : Nat} (h : Rg w mb r n l left' cnt) {y : Al} (hy : y.ok) (hl : lf left' y = false) (e : left' = fun z => left z && !z.sameKey (kl y.n y.t)) (ty : TypeId) :
    ∃ w' cnt', (Builtin.delete_ #[55, 59] ty #[.map (some mb), keyV y.n y.t]).run Try.prog w = .ok (.tuple #[]) w' ∧ Rg w' mb r n (wo l y.n y.t) left' cnt' ∧ cnt' ≤ cnt ∧ w.mapTurned w' mb := by
  obtain ⟨D, h, hI, hG, hL⟩ := h
  obtain ⟨w', cnt', hrun, h', hle, hw⟩ := h.drop keyK Try.underlying55 (key_mk hy.n64 hy.t64) ty
  have e2 : (fun z => left' z && !z.sameKey (kl y.n y.t)) = left' := by
    subst e
    exact Maps.strike_twice left _
  rw [e2] at h'
  refine ⟨w', cnt', hrun, ⟨_, h', hI.del (h.owns.tidy keyK) hG hy.n64 hy.t64, hG.wo _ _, fun z hz => ?_⟩, hle, hw⟩
  rw [Maps.has_del_other (fun e3 => by rw [e3] at hz; rw [show left' (kl y.n y.t) = false from hl] at hz; cases hz)]
  exact hL z hz

section
variable {P : Program} (w : World) {ops : Array Oper} {rest : List Oper} {o : Oper} {a : Act} {Q : Exit → Act → World → Prop}
/-- 'range m'. -/
theorem wpList_range_als (hg : o.guard = none) (m : Operand) (hop : o.op = Op.range 55 m) (mb : Nat) (l : List Al) (hm : a.eval m = .map (some mb)) (h : Tm w mb l)
    (hK : ∀ w' left cnt, Rg w' mb w.heap.size l.length l left cnt → (∀ x ∈ l, lf left x = true) → w.grownBy w' none → w'.heap.size = w.heap.size + 1 → wpList Try.prog ops Q rest (a.put o.dst (.pointer (some ⟨w.heap.size, 0, none⟩))) w') :
    wpList Try.prog ops Q (o :: rest) a w := by
  obtain ⟨D, h, hI, hG⟩ := h
  refine wpList_range_own w hg m 55 hop 59 31 keyK Try.underlying55 elA mb l.length D hm h fun w' h1 h2 h3 => hK w' _ _ ⟨D, h1, hI, hG, fun _ h => h⟩ (fun x hx => ?_) h2 h3
  have hok := hG.all x hx
  show Maps.has D (kl x.n x.t) = true
  rw [hI.has _ _ hok.n64 hok.t64]
  exact hasA_iff.2 ⟨x, hx, rfl, rfl⟩
/-- The step. -/
theorem wpList_next_als (hg : o.guard = none) (it : Operand) (hop : o.op = Op.next it false) (mb r n : Nat) (l : List Al) (left : Lit → Bool) (cnt : Nat) (hit : a.eval it = .pointer (some ⟨r, 0, none⟩)) (h : Rg w mb r n l left cnt)
    (hDone : (∀ kl, left kl = false) → wpList Try.prog ops Q rest (a.put o.dst (.tuple #[.bool false])) w)
    (hMore : ∀ (y : Al) (w' : World) (left' : Lit → Bool) (cnt' : Nat), y ∈ l → lf left y = true → lf left' y = false → (∀ x ∈ l, x ≠ y → lf left' x = lf left x) → (∀ z, left' z = true → left z = true) → left' = (fun z => left z && !z.sameKey (kl y.n y.t)) → Rg w' mb r n l left' cnt' → cnt' < cnt → w.grownBy w' (some r) → w'.heap.size = w.heap.size →
      (Instr.entry (.pointer (some ⟨r, 0, none⟩))).run Try.prog w' = .ok (.tuple #[keyV y.n y.t, y.val]) w' → wpList Try.prog ops Q rest (a.put o.dst (.tuple #[.bool true, keyV y.n y.t, y.val])) w') :
    wpList Try.prog ops Q (o :: rest) a w := by
  obtain ⟨D, h, hI, hG, hL⟩ := h
  refine wpList_next_ranges w hg it hop 59 keyK elA (fun p : Int × Int => keyV p.1 p.2) Al.val (fun key kl hk => by obtain ⟨n, t, rfl, _⟩ := key_inv hk; exact ⟨(n, t), rfl⟩) (fun v y hv => by obtain ⟨x, rfl, _⟩ := elA_inv hv; exact ⟨x, rfl⟩) mb r n D left cnt hit h (fun _ hl => hDone hl) ?_
  intro p c k0 y w' cnt' hkey hlk hv hat hrg hlt hgr hsz hen
  obtain ⟨n', t', e1, e2, hn, ht⟩ := key_inv hkey
  obtain ⟨p1, p2⟩ := p
  simp at e1
  obtain ⟨rfl, rfl⟩ := e1
  subst e2
  have hy : (c.dat, ([] : List MemPlace)) = y := by rw [elA_mk] at hv; exact Option.some.inj hv
  subst hy
  obtain ⟨hm, rfl, rfl⟩ := hI.found hn ht (hL _ hlk) hat
  refine hMore c w' _ cnt' hm hlk ?_ ?_ (fun z hz => ?_) rfl ⟨D, hrg, hI, hG, fun z hz => hL z ?_⟩ hlt hgr hsz hen
  · show (left _ && !(kl c.n c.t).sameKey (kl c.n c.t)) = false
    rw [WideAt.sameKey_self (kl_key hn ht)]; simp
  · intro x hx hne
    have hok := hG.all x hx
    show (left _ && !(kl x.n x.t).sameKey (kl c.n c.t)) = _
    rw [Maps.sameKey_ne (fun e => hne ?_)]
    · simp
    · obtain ⟨q1, q2⟩ := kl_inj hok.n64 hok.t64 hn ht e
      exact key_unique hG hx hm q1 q2
  · simp at hz; exact hz.1
  · simp at hz; exact hz.1
end
end Go.Proofs.Ytcanagecdniiiaa
