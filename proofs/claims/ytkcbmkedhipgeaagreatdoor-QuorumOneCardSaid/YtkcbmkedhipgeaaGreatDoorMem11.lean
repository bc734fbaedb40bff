/-
  A group in memory: the program's, and the document's own; what of memory turns while one of them is called.
-/
import Derived.Test.YtkcbmkedhipgeaaGreatDoorRg
import Derived.Test.YtkcbmkedhipgeaaGreatDoorAcp3
import Derived.Test.YtkcbmkedhipgeaaGreatDoorRprog3
namespace Go.Proofs.YtkcbmkedhipgeaaGreatDoor
open Go.RowKit Go.ChangeMaps

/-! ### what turns -/
def isTy (ts : List TypeId) : Obj → Prop
  | .cells _ t _ => t ∈ ts
  | _ => False
def isMp : Obj → Prop
  | .map .. => True
  | _ => False
/-- Of what was there only those blocks have turned of which p tells. -/
structure Chg (p : Nat → Obj → Prop) (w w' : World) : Prop where
  os : w'.os = w.os
  tape : w'.tape = w.tape
  output : w'.output = w.output
  size : w.heap.size ≤ w'.heap.size
  block : ∀ k o, w.heap[k]? = some o → p k o ∨ w'.heap[k]? = some o
section
variable {p p' : Nat → Obj → Prop} {w w1 w2 w' : World}
theorem Chg.refl (p : Nat → Obj → Prop) (w : World) : Chg p w w := ⟨rfl, rfl, rfl, Nat.le_refl _, fun _ _ h => .inr h⟩
theorem lt_of {w : World} {k : Nat} {o : Obj} (h : w.heap[k]? = some o) : k < w.heap.size := (Array.getElem?_eq_some_iff.1 h).1
theorem Chg.of_below (h : Below w.heap.size w w') : Chg p w w' := ⟨h.os, h.tape, h.output, h.size, fun k _ hk => .inr ((h.block k (lt_of hk)).trans hk)⟩
theorem Chg.of_fb {b : Nat} (h : Fb b w w') (hp : ∀ o, w.heap[b]? = some o → p b o) : Chg p w w' := ⟨h.os, h.tape, h.output, h.size, fun k o hk => by
  by_cases e : k = b
  · subst e; exact .inl (hp o hk)
  · exact .inr ((h.block k (lt_of hk) e (by simp)).trans hk)⟩
theorem Chg.trans (h : Chg p w w1) (h' : Chg p' w1 w2) (hp : ∀ k o, w.heap[k]? = some o → p' k o → p k o) : Chg p w w2 :=
  ⟨h'.os.trans h.os, h'.tape.trans h.tape, h'.output.trans h.output, Nat.le_trans h.size h'.size, fun k o hk => by
    rcases h.block k o hk with h1 | h1
    · exact .inl h1
    · rcases h'.block k o h1 with h2 | h2
      · exact .inl (hp k o hk h2)
      · exact .inr h2⟩
theorem Chg.mono (h : Chg p w w') (hp : ∀ k o, p k o → p' k o) : Chg p' w w' := ⟨h.os, h.tape, h.output, h.size, fun k o hk => (h.block k o hk).imp (hp k o) id⟩
theorem Chg.same (h : Chg p w w1) (h' : Chg p w1 w2) : Chg p w w2 := h.trans h' fun _ _ _ h => h
theorem Chg.keep (h : Chg p w w') {k : Nat} {o : Obj} (hk : w.heap[k]? = some o) (hn : ¬ p k o) : w'.heap[k]? = some o := (h.block k o hk).resolve_left hn
theorem Chg.below (h : Chg p w w1) (hb : Below w1.heap.size w1 w2) : Chg p w w2 := h.same (Chg.of_below hb)
theorem Chg.of_map {b : Nat} {es : Array MapEntry} {c : Nat} {o : Obj} (hb : w.heap[b]? = some (.map es c)) (hp : ∀ es c, p b (.map es c)) : Chg p w (setBlock w b o) := ⟨rfl, rfl, rfl, by simp [setBlock], fun k o' hk => by
  by_cases e : k = b
  · subst e; rw [hb] at hk; injection hk with hk; subst hk; exact .inl (hp _ _)
  · exact .inr ((heap_setBlock_other hb _ e).trans hk)⟩
theorem Chg.below' (h : Chg p w w') {B : Nat} (hp : ∀ k o, k < B → ¬ p k o) (hB : B ≤ w.heap.size) : Below B w w' := ⟨h.os, h.tape, h.output, h.size, fun k hk => by
  have hlt : k < w.heap.size := by omega
  have e : w.heap[k]? = some w.heap[k] := Array.getElem?_eq_getElem hlt
  rw [e]
  exact h.keep e (hp _ _ hk)⟩
theorem Chg.cell (h : Chg p w w') {k o : Nat} {v : Value} (hc : w.cell? ⟨k, o, none⟩ = some v) (hn : ∀ ob, w.heap[k]? = some ob → ¬ p k ob) : w'.cell? ⟨k, o, none⟩ = some v := by
  have hlt := World.block_lt_of_cell? w _ hc
  have e : w.heap[k]? = some w.heap[k] := Array.getElem?_eq_getElem hlt
  rw [World.cell?_of_block (w := w) (a := ⟨k, o, none⟩) ((h.keep e (hn _ e)).trans e.symm)]; exact hc
end

/-! ### texts in a row of their own -/
def scs (l : List ByteArray) : List Value := l.map .string
theorem scs_len (l : List ByteArray) : (scs l).length = l.length := by simp [scs]
theorem scs_one (l : List ByteArray) : ∀ u ∈ scs l, u.oneCell' = true := fun u hu => by
  obtain ⟨x, -, rfl⟩ := List.mem_map.1 hu; rfl
theorem scs_more (l : List ByteArray) (x : ByteArray) : scs l ++ [.string x] = scs (l ++ [x]) := by simp [scs]
def OwnsS (w : World) (base : Nat) (v : Value) (l : List ByteArray) : Prop := w.ownsRow base 9 1 v l.length (scs l)
theorem OwnsS.nil (w : World) (base : Nat) : OwnsS w base (.slice none 0 0) [] := World.ownsRow_nil _ _ _ _
theorem OwnsS.lt {w : World} {base : Nat} {v : Value} {l : List ByteArray} (h : OwnsS w base v l) {g : Nat} (hg : v.ownBlock = some g) : base ≤ g ∧ g < w.heap.size := World.ownsRow.lt h g hg
theorem OwnsS.kept {w w' : World} {base : Nat} {v : Value} {l : List ByteArray} (h : OwnsS w base v l) (hb : ∀ g, v.ownBlock = some g → w'.heap[g]? = w.heap[g]?) : OwnsS w' base v l := by
  refine ⟨h.1, ?_⟩
  rcases h.2 with hn | ⟨g, cap, cur, rfl, hbs, hgg, rest⟩
  · exact .inl hn
  · exact .inr ⟨g, cap, cur, rfl, hbs, by rw [hb g rfl]; exact hgg, rest⟩
theorem OwnsS.below {w w' : World} (hb : Below w.heap.size w w') {base : Nat} {v : Value} {l : List ByteArray} (h : OwnsS w base v l) : OwnsS w' base v l := h.kept fun g hg => hb.block g (h.lt hg).2
theorem OwnsS.mono {w : World} {base base' : Nat} {v : Value} {l : List ByteArray} (h : OwnsS w base v l) (hb : base' ≤ base) : OwnsS w base' v l := by
  refine ⟨h.1, ?_⟩
  rcases h.2 with hn | ⟨g, cap, cur, rfl, hbs, rest⟩
  · exact .inl hn
  · exact .inr ⟨g, cap, cur, rfl, by omega, rest⟩
theorem OwnsS.ty {w : World} {base : Nat} {v : Value} {l : List ByteArray} (h : OwnsS w base v l) {g : Nat} (hg : v.ownBlock = some g) : ∃ cur, w.heap[g]? = some (.cells cur 9 (0, 0)) := owns_type h hg
theorem OwnsS.chg {p : Nat → Obj → Prop} {w w' : World} {base : Nat} {v : Value} {l : List ByteArray} (h : OwnsS w base v l) (hc : Chg p w w') (hn : ∀ g, v.ownBlock = some g → ∀ (cur : Array Value) (f : Nat × Nat), ¬ p g (Obj.cells cur 9 f)) : OwnsS w' base v l :=
  h.kept fun g hg => by
    obtain ⟨cur, h1⟩ := h.ty hg
    rw [h1]; exact hc.keep h1 (hn g hg _ _)
/-- What it looks like. -/
theorem OwnsS.form {w : World} {base : Nat} {v : Value} {l : List ByteArray} (h : OwnsS w base v l) : ∃ A c, v = .slice A l.length c ∧ (l ≠ [] → ∃ g, A = some ⟨g, 0, none⟩ ∧ g < w.heap.size) ∧ ∀ i x, l[i]? = some x → ∃ g, A = some ⟨g, 0, none⟩ ∧ g < w.heap.size ∧ w.cell? ⟨g, i, none⟩ = some (.string x) := by
  have h' := h
  rcases h'.2 with ⟨hv, h0⟩ | ⟨g, cap, cur, hv, hb, hg, hn, hm, hs, ht⟩
  · have : l = [] := List.length_eq_zero_iff.1 h0
    subst this
    exact ⟨none, 0, hv, fun h => absurd rfl h, fun i x hx => by simp at hx⟩
  · refine ⟨_, cap, hv, fun _ => ⟨g, rfl, lt_of hg⟩, fun i x hx => ⟨g, rfl, lt_of hg, ?_⟩⟩
    have := h.cells (g := g) (by rw [hv]; rfl) i (.string x) (by unfold scs; rw [List.getElem?_map, hx]; rfl)
    rw [← this]
    by_cases hi : i = 0 <;> simp [Addr.add, hi]

/-! ### the program's group -/
/-- Where its parts lie: the nodes' row, the map, each node, its acceptor, its log, what is saved of it. -/
structure Pl where
  B : Nat
  nb : Nat
  cap : Nat
  mb : Nat
  O : List On
  c : Nat
  nds : Nat → Nat
  ac : Nat → Nat
  lr : Nat → Value
  sv : Nat → ByteArray
/-- The logs' rows. -/
def Pl.F (P : Pl) (n k : Nat) : Prop := ∃ i, i < n ∧ (P.lr i).ownBlock = some k
def nodeC (P : Pl) (i : Nat) (x : Nd) : Array Value := #[if x.up = true then .pointer (some ⟨P.ac i, 0, none⟩) else .pointer none, .string (P.sv i), P.lr i, .int .i64 x.rd]
structure ND (w : World) (P : Pl) (i : Nat) (x : Nd) : Prop where
  cs : w.heap[P.nds i]? = some (.cells (nodeC P i x) 62 (0, 0))
  acc : x.up = true → PA w (P.ac i) x.A
  sav : x.up = false → P.sv i = saveOf x.A
  good : x.A.Good
  log : OwnsS w P.B (P.lr i) x.log
  lo : P.B ≤ P.nds i
  loA : x.up = true → P.B ≤ P.ac i
structure PG (w : World) (g : Nat) (S : Gp) (P : Pl) : Prop where
  grp : w.heap[g]? = some (.cells #[.slice (some ⟨P.nb, 0, none⟩) S.n P.cap, .map (some P.mb)] 57 (0, 0))
  row : ∃ cs, w.heap[P.nb]? = some (.cells cs 58 (0, 0)) ∧ ∀ i, i < S.n → cs[i]? = some (.pointer (some ⟨P.nds i, 0, none⟩))
  nd : ∀ i, i < S.n → ND w P i (S.nd i)
  ndsNe : ∀ i j, i < S.n → j < S.n → i ≠ j → P.nds i ≠ P.nds j
  acNe : ∀ i j, i < S.n → j < S.n → i ≠ j → (S.nd i).up = true → (S.nd j).up = true → P.ac i ≠ P.ac j
  lrNe : ∀ i j, i < S.n → j < S.n → i ≠ j → ∀ b, (P.lr i).ownBlock = some b → (P.lr j).ownBlock ≠ some b
  tab : VT P.B w P.mb P.O P.c S.tab
/-- What may turn of memory while the program's group is called: its nodes, its acceptors, maps, its logs' rows. -/
def pP (n : Nat) (P : Pl) (k : Nat) (o : Obj) : Prop := P.B ≤ k ∧ (isTy [62, 103] o ∨ isMp o ∨ P.F n k)
/-- What it is made of. -/
def mP (F : Nat → Prop) (k : Nat) (o : Obj) : Prop := isTy [57, 58, 62, 103, 75] o ∨ isMp o ∨ F k
section
variable {w w' : World} {g : Nat} {S : Gp} {P : Pl}
theorem PA.keptTy {a : Nat} {A : Acc} (h : PA w a A) (hk : ∀ (k : Nat) (cs : Array Value) (t : TypeId) (f : Nat × Nat), w.heap[k]? = some (Obj.cells cs t f) → t ∈ [103, 75] → w'.heap[k]? = some (Obj.cells cs t f)) : PA w' a A := by
  refine ⟨h.pc.kept ?_ fun z v hz => ?_, h.good⟩
  · obtain ⟨f, cs, h1, -⟩ := h.pc.row
    rw [h1]; exact hk _ _ _ _ h1 (by simp)
  · have hz' : w.heap[z]? = _ := hz
    rw [hz']; exact hk _ _ _ _ hz' (by simp)
theorem PA.ty {a : Nat} {A : Acc} (h : PA w a A) : ∃ cs, w.heap[a]? = some (.cells cs 103 (0, 0)) := by
  obtain ⟨f, cs, h1, -⟩ := h.pc.row
  exact ⟨cs, h1⟩
theorem ND.keep {i : Nat} {x : Nd} {n : Nat} (h : ND w P i x) (hi : i < n) (hk : ∀ k o, w.heap[k]? = some o → mP (P.F n) k o → w'.heap[k]? = some o) : ND w' P i x :=
  ⟨hk _ _ h.cs (.inl (by simp [isTy])), fun hu => (h.acc hu).keptTy fun k cs t f hc ht => hk _ _ hc (.inl (by simp only [isTy]; simp at ht ⊢; rcases ht with e | e <;> simp [e])), h.sav, h.good,
    h.log.kept fun b hb => by
      obtain ⟨cur, h1⟩ := h.log.ty hb
      rw [h1]; exact hk _ _ h1 (.inr (.inr ⟨i, hi, hb⟩)), h.lo, h.loA⟩
theorem PG.keep (h : PG w g S P) (hk : ∀ k o, w.heap[k]? = some o → mP (P.F S.n) k o → w'.heap[k]? = some o) : PG w' g S P := by
  obtain ⟨cs, h1, h2⟩ := h.row
  refine ⟨hk _ _ h.grp (.inl (by simp [isTy])), ⟨cs, hk _ _ h1 (.inl (by simp [isTy])), h2⟩, fun i hi => (h.nd i hi).keep hi hk, h.ndsNe, h.acNe, h.lrNe, h.tab.of_maps fun b es cl hb => ?_⟩
  rw [hb]; exact hk _ _ hb (.inr (.inl trivial))
theorem PG.below (h : PG w g S P) (hb : Below w.heap.size w w') : PG w' g S P := h.keep fun k _ hk _ => (hb.block k (lt_of hk)).trans hk
theorem PG.F_lt (h : PG w g S P) {k : Nat} (hk : P.F S.n k) : k < w.heap.size := by
  obtain ⟨i, hi, hb⟩ := hk
  exact ((h.nd i hi).log.lt hb).2
theorem PG.F_ty (h : PG w g S P) {k : Nat} (hk : P.F S.n k) : ∃ cur, w.heap[k]? = some (.cells cur 9 (0, 0)) := by
  obtain ⟨i, hi, hb⟩ := hk
  exact (h.nd i hi).log.ty hb
theorem PG.g_lt (h : PG w g S P) : g < w.heap.size := lt_of h.grp
/-- The cells of the group, of its row, of a node. -/
theorem cell_at {w : World} {b : Nat} {cs : Array Value} {t : TypeId} (h : w.heap[b]? = some (.cells cs t (0, 0))) (i : Nat) : w.cell? ⟨b, i, none⟩ = cs[i]? := cell_of_row w b i cs t (0, 0) h
theorem PG.c0 (h : PG w g S P) : w.cell? ⟨g, 0, none⟩ = some (.slice (some ⟨P.nb, 0, none⟩) S.n P.cap) := by rw [cell_at h.grp]; rfl
theorem PG.c1 (h : PG w g S P) : w.cell? ⟨g, 1, none⟩ = some (.map (some P.mb)) := by rw [cell_at h.grp]; rfl
theorem PG.nodeAt (h : PG w g S P) {i : Nat} (hi : i < S.n) : w.cell? ⟨P.nb, i, none⟩ = some (.pointer (some ⟨P.nds i, 0, none⟩)) := by
  obtain ⟨cs, h1, h2⟩ := h.row
  rw [cell_at h1]; exact h2 i hi
theorem ND.c0 {i : Nat} {x : Nd} (h : ND w P i x) : w.cell? ⟨P.nds i, 0, none⟩ = some (if x.up = true then .pointer (some ⟨P.ac i, 0, none⟩) else .pointer none) := by rw [cell_at h.cs]; rfl
theorem ND.c1 {i : Nat} {x : Nd} (h : ND w P i x) : w.cell? ⟨P.nds i, 1, none⟩ = some (.string (P.sv i)) := by rw [cell_at h.cs]; rfl
theorem ND.c2 {i : Nat} {x : Nd} (h : ND w P i x) : w.cell? ⟨P.nds i, 2, none⟩ = some (P.lr i) := by rw [cell_at h.cs]; rfl
theorem ND.c3 {i : Nat} {x : Nd} (h : ND w P i x) : w.cell? ⟨P.nds i, 3, none⟩ = some (.int .i64 x.rd) := by rw [cell_at h.cs]; rfl
theorem free_at {w : World} {b : Nat} {cs : Array Value} {t : TypeId} (h : w.heap[b]? = some (.cells cs t (0, 0))) (i : Nat) : w.frozen? ⟨b, i, none⟩ = false := by
  unfold World.frozen?; simp only [h]; simp
end
/-- What a call of the program's group leaves of the places, and of memory. -/
structure PT (n : Nat) (P P' : Pl) (w w' : World) : Prop where
  chg : Chg (pP n P) w w'
  new : ∀ k, P'.F n k → P.F n k ∨ w.heap.size ≤ k
  fix : P'.nb = P.nb ∧ P'.cap = P.cap ∧ P'.mb = P.mb ∧ P'.nds = P.nds ∧ P'.B = P.B
theorem PT.of_below {n : Nat} {P : Pl} {w w' : World} (h : Below w.heap.size w w') : PT n P P w w' := ⟨Chg.of_below h, fun _ h => .inl h, rfl, rfl, rfl, rfl, rfl⟩
theorem PT.trans {n : Nat} {P P1 P2 : Pl} {w w1 w2 : World} (h : PT n P P1 w w1) (h' : PT n P1 P2 w1 w2) : PT n P P2 w w2 := by
  refine ⟨h.chg.trans h'.chg fun k o hk hp => ?_, fun k hk => ?_, h'.fix.1.trans h.fix.1, h'.fix.2.1.trans h.fix.2.1, h'.fix.2.2.1.trans h.fix.2.2.1, h'.fix.2.2.2.1.trans h.fix.2.2.2.1, h'.fix.2.2.2.2.trans h.fix.2.2.2.2⟩
  · obtain ⟨hB, hp⟩ := hp
    rw [h.fix.2.2.2.2] at hB
    refine ⟨hB, ?_⟩
    rcases hp with hp | hp | hp
    · exact .inl hp
    · exact .inr (.inl hp)
    · rcases h.new k hp with hp | hp
      · exact .inr (.inr hp)
      · have := lt_of hk; omega
  · rcases h'.new k hk with hk | hk
    · exact h.new k hk
    · right; exact Nat.le_trans h.chg.size hk
/-- Texts of one's own stay. -/
theorem PT.texts {n : Nat} {P P' : Pl} {w w' : World} (h : PT n P P' w w') {base : Nat} {v : Value} {l : List ByteArray} (ho : OwnsS w base v l) (hF : ∀ k, v.ownBlock = some k → ¬ P.F n k) : OwnsS w' base v l ∧ ∀ k, v.ownBlock = some k → ¬ P'.F n k := by
  refine ⟨ho.chg h.chg fun k hk cur f hp => ?_, fun k hk hp => ?_⟩
  · rcases hp.2 with hp | hp | hp
    · simp [isTy] at hp
    · exact hp
    · exact hF k hk hp
  · rcases h.new k hp with hp | hp
    · exact hF k hk hp
    · have := (ho.lt hk).2; omega
/-- One node has turned, and its log's row. -/
theorem PG.node {w w' : World} {g i : Nat} {S : Gp} {P P' : Pl} {x' : Nd} (h : PG w g S P) (hi : i < S.n) (hc : Chg (fun b _ => b = P.nds i ∨ (P.lr i).ownBlock = some b) w w') (hN : ND w' P' i x')
    (hf : P'.nb = P.nb ∧ P'.cap = P.cap ∧ P'.mb = P.mb ∧ P'.nds = P.nds ∧ P'.B = P.B ∧ P'.O = P.O ∧ P'.c = P.c) (ho : ∀ j, j ≠ i → P'.ac j = P.ac j ∧ P'.lr j = P.lr j ∧ P'.sv j = P.sv j)
    (ha : x'.up = true → ∀ j, j < S.n → j ≠ i → (S.nd j).up = true → P'.ac i ≠ P.ac j) (hl : ∀ b, (P'.lr i).ownBlock = some b → ∀ j, j < S.n → j ≠ i → (P.lr j).ownBlock ≠ some b) : PG w' g (S.set i x') P' := by
  obtain ⟨f1, f2, f3, f4, f5, f6, f7⟩ := hf
  have hNi := h.nd i hi
  have hk : ∀ (k : Nat) (cs : Array Value) (t : TypeId), t ≠ 62 ∧ t ≠ 9 → w.heap[k]? = some (Obj.cells cs t (0, 0)) → w'.heap[k]? = some (Obj.cells cs t (0, 0)) := fun k cs t ht hk => hc.keep hk fun e => by
    rcases e with e | e
    · rw [e, hNi.cs] at hk
      injection hk with hk
      injection hk with _ h2
      exact ht.1 h2.symm
    · obtain ⟨cur, h1⟩ := hNi.log.ty e
      rw [h1] at hk
      injection hk with hk
      injection hk with _ h2
      exact ht.2 h2.symm
  have hm : ∀ (b : Nat) (es : Array MapEntry) (cl : Nat), w.heap[b]? = some (Obj.map es cl) → w'.heap[b]? = w.heap[b]? := fun b es cl hb => by
    rw [hb]
    refine hc.keep hb fun e => ?_
    rcases e with e | e
    · rw [e, hNi.cs] at hb; cases hb
    · obtain ⟨cur, h1⟩ := hNi.log.ty e
      rw [h1] at hb; cases hb
  have hnd : ∀ j, (S.set i x').nd j = if j = i then x' else S.nd j := fun j => rfl
  obtain ⟨cs, h1, h2⟩ := h.row
  refine ⟨?_, ⟨cs, ?_, ?_⟩, fun j hj => ?_, ?_, fun a b hla hlb hab u1 u2 => ?_, fun a b hla hlb hab q hq => ?_, ?_⟩
  · rw [f1, f2, f3]; exact hk _ _ _ (by decide) h.grp
  · rw [f1]; exact hk _ _ _ (by decide) h1
  · rw [f4]; exact h2
  · rw [hnd]
    by_cases e : j = i
    · rw [if_pos e, e]; exact hN
    · rw [if_neg e]
      have hNj := h.nd j hj
      obtain ⟨o1, o2, o3⟩ := ho j e
      have hcs : nodeC P' j (S.nd j) = nodeC P j (S.nd j) := by unfold nodeC; rw [o1, o2, o3]
      refine ⟨?_, fun hu => ?_, fun hd => ?_, hNj.good, ?_, ?_, fun hu => ?_⟩
      · rw [f4, hcs]
        refine hc.keep hNj.cs fun e' => ?_
        rcases e' with e' | e'
        · exact h.ndsNe j i hj hi e e'
        · obtain ⟨cur, h3⟩ := hNi.log.ty e'
          rw [hNj.cs] at h3
          injection h3 with h3
          injection h3 with _ h4
          exact absurd h4 (by decide)
      · rw [o1]
        refine (hNj.acc hu).keptTy fun b cs t f hb ht => hc.keep hb fun e' => ?_
        have ht' : t = 103 ∨ t = 75 := by simpa using ht
        rcases e' with e' | e'
        · rw [e', hNi.cs] at hb
          injection hb with hb
          injection hb with _ h4
          rcases ht' with e5 | e5
          · rw [e5] at h4; exact absurd h4 (by decide)
          · rw [e5] at h4; exact absurd h4 (by decide)
        · obtain ⟨cur, h3⟩ := hNi.log.ty e'
          rw [h3] at hb
          injection hb with hb
          injection hb with _ h4
          rcases ht' with e5 | e5
          · rw [e5] at h4; exact absurd h4 (by decide)
          · rw [e5] at h4; exact absurd h4 (by decide)
      · rw [o3]; exact hNj.sav hd
      · rw [o2, f5]
        refine hNj.log.kept fun b hb => ?_
        obtain ⟨cur, h3⟩ := hNj.log.ty hb
        rw [h3]
        refine hc.keep h3 fun e' => ?_
        rcases e' with e' | e'
        · rw [e', hNi.cs] at h3
          injection h3 with h3
          injection h3 with _ h4
          exact absurd h4 (by decide)
        · exact h.lrNe i j hi hj (fun e => by omega) b e' hb
      · rw [f5, f4]; exact hNj.lo
      · rw [f5, o1]; exact hNj.loA hu
  · rw [f4]; exact h.ndsNe
  · rw [hnd] at u1 u2
    by_cases ea : a = i
    · rw [ea, if_pos rfl] at u1
      have eb : b ≠ i := fun e => hab (ea.trans e.symm)
      rw [if_neg eb] at u2
      rw [ea, (ho b eb).1]; exact ha u1 b hlb eb u2
    · rw [if_neg ea] at u1
      by_cases eb : b = i
      · rw [if_pos eb] at u2
        rw [eb, (ho a ea).1]; exact (ha u2 a hla ea u1).symm
      · rw [if_neg eb] at u2
        rw [(ho a ea).1, (ho b eb).1]; exact h.acNe a b hla hlb hab u1 u2
  · by_cases ea : a = i
    · have eb : b ≠ i := fun e => hab (ea.trans e.symm)
      rw [(ho b eb).2.1]
      rw [ea] at hq
      exact hl q hq b hlb eb
    · rw [(ho a ea).2.1] at hq
      by_cases eb : b = i
      · rw [eb]
        exact fun hq' => hl q hq' a hla ea hq
      · rw [(ho b eb).2.1]; exact h.lrNe a b hla hlb hab q hq
  · rw [f3, f5, f6, f7]; exact h.tab.of_maps hm
/-- What was there ahead of the group stays. -/
theorem PT.under {n : Nat} {P P' : Pl} {w w' : World} (h : PT n P P' w w') (hB : P.B ≤ w.heap.size) : Below P.B w w' := h.chg.below' (fun k _ hk hp => by have := hp.1; omega) hB
end Go.Proofs.YtkcbmkedhipgeaaGreatDoor
