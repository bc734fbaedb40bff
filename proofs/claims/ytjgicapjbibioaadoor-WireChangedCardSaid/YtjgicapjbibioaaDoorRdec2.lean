/-
  The document's own Decode of layer 3 (weirkeepref03), by a contract: what it answers is the same function of the bytes.
-/
import Derived.Test.YtjgicapjbibioaaDoorRdec1
import Derived.Test.YtjgicapjbibioaaDoorRenc
import Derived.Laws.Tables
import Derived.Laws.CopyOwn
import Derived.StillTailTactics
namespace Go.Proofs.YtjgicapjbibioaaDoor
open Go.RowKit Go.Lib Go.PlainAid

/-- A fault of the document's stays, where only another block has turned. -/
theorem RF.keep {w w' : World} {A : Option Addr} {n c D : Nat} {es : List Int} (h : RF w A n c es) (hk : ∀ k, k ≠ D → w'.heap[k]? = w.heap[k]?) (hg : ∀ g, A = some ⟨g, 0, none⟩ → g ≠ D) : RF w' A n c es := by
  obtain ⟨h1, h2, h3⟩ := h
  refine ⟨h1, h2, ?_⟩
  rcases h3 with h3 | ⟨g, hA, hc⟩
  · exact .inl h3
  · exact .inr ⟨g, hA, fun j x hx => by rw [World.cell?_of_block (w := w) (a := ⟨g, j, none⟩) (hk g (hg g hA))]; exact hc j x hx⟩
/-- A message is stored whole. -/
theorem wpList_store_msg {ops : Array Oper} {rest : List Oper} {o : Oper} {a : Act} {w : World} {Q : Exit → Act → World → Prop} (hgd : o.guard = none) (x y : Operand) (ho : o.op = .store 23 x y)
    (D : Nat) (m m0 : M) (hx : a.eval x = .pointer (some ⟨D, 0, none⟩)) (hy : a.eval y = m.val) (hD : MB w D m0) (B : Nat) (w0 : World) (hB : Below B w0 w) (hBD : B ≤ D)
    (h : ∀ wF, MB wF D m → Below B w0 wF → (∀ k, k ≠ D → wF.heap[k]? = w.heap[k]?) → wF.heap.size = w.heap.size → wpList Tryd.prog ops Q rest (a.put o.dst undef) wF) : wpList Tryd.prog ops Q (o :: rest) a w :=
  wpList_store_row hgd 23 x y ho D m.cells hx hy 23 m0.cells hD (by kernel_rfl) rfl (by simp [M.cells, Value.oneCell'])
    (h _ (setRow_heap w D m0.cells m.cells _ _ hD) (below_setRow hB hBD _) (fun k hk => setRow_other w D k _ hk) (by simp))

set_option maxRecDepth 100000 in
set_option maxHeartbeats 4000000 in
theorem rdecode_no (s : ByteArray) (w : World) (hs : s.size ≤ 1000000) (ho : (openOf s).2 = false) :
    Calls Tryd.prog 13 #[.string s] w fun e w' => ∃ A k c, e = .returned (.tuple #[M.zero.val, .slice A k c]) ∧ RF w' A k c [20] ∧ Below w.heap.size w w' := by
  have HB0 := Lib.hid (show Below w.heap.size w (w.alloc (.cells M.zero.cells 23)) from (Below.refl _ _).alloc (Nat.le_refl _) _)
  have HD0 := Lib.hid (MB.fresh w M.zero)
  have HO := Lib.hid (fun W => ropen_any s W (by omega))
  rw [ho] at HO
  go_enter Tryd.func13, Tryd.ntmps13
  go_wp2_with fail
  go_at_call 33
  refine (HO.out _).mono ?_
  rintro e w1 ⟨rfl, hb1⟩
  have HD2 := Lib.hid ((HD0.out.below hb1).below ((Below.refl _ _).alloc (Nat.le_refl _) (.cells #[.int .i64 20] 28)))
  have HB1 := Lib.hid (HB0.out.trans (hb1.mono HB0.out.size))
  have hz1 := (HD0.out.below hb1).lt
  have HB2 := Lib.hid (HB1.out.alloc (by omega) (.cells #[.int .i64 20] 28))
  have HR2 := Lib.hid (show RF (w1.alloc (.cells #[.int .i64 20] 28)) (some ⟨w1.heap.size, 0, none⟩) 1 1 [20] from ⟨rfl, Nat.le_refl _, .inr ⟨_, rfl, fun j x hx => by
    match j, hx with
    | 0, hx => simp at hx; subst hx; simp⟩⟩)
  clear HD0 HB0 HO hb1 HB1
  have hfr : ∀ g, some (⟨w1.heap.size, 0, none⟩ : Addr) = some ⟨g, 0, none⟩ → g ≠ w.heap.size := fun g hg => by injection hg with hg; injection hg with hg; omega
  go_wp2_with (with_reducible show wpList _ _ _ (Oper.mk none (Op.store 23 (.tmp 2) _) _ _ _ _ :: _) _ _; refine wpList_store_msg rfl (.tmp 2) (.tmp 24) rfl w.heap.size M.zero M.zero rfl rfl HD2.out _ _ HB2.out (Nat.le_refl _) ?_; intro wF hMF hBF hkF hzF; (have HBF := Lib.hid hBF); (have HRF := Lib.hid (HR2.out.keep hkF hfr)); (obtain ⟨k0, k1, k2, k3, k4, k5, k6, k7⟩ := hMF.mat.all); clear hMF hBF hkF hzF)
  refine bodyPost_ret (v := .tuple #[M.zero.val, .slice (some ⟨w1.heap.size, 0, none⟩) 1 1]) (by simp [results, Tryd.results13, go_sem, k0, k1, k2, k3, k4, k5, k6, k7]) rfl ⟨_, _, _, rfl, HRF.out, HBF.out⟩

/-- A message is stored, and a list of errors is made. -/
theorem MB.endAt {w0 w : World} {D : Nat} {m0 : M} {B : Nat} (h : MB w D m0) (hB : Below B w0 w) (hD : B ≤ D) (m : M) (es : List Int) :
    MB ((((((((((w.setCell ⟨D, 0, none⟩ (.int .i64 m.kind)).setCell ⟨D, 1, none⟩ (.int .i64 m.src)).setCell ⟨D, 2, none⟩ (.int .i64 m.dst)).setCell ⟨D, 3, none⟩ (.int .i64 m.epoch)).setCell ⟨D, 4, none⟩ (.int .i64 m.seq)).setCell ⟨D, 5, none⟩ (.int .i64 m.off)).setCell ⟨D, 6, none⟩ (.int .i64 m.len)).setCell ⟨D, 7, none⟩ (.string m.data)).alloc (.cells (es.map (Value.int .i64)).toArray 28)).drew) D m ∧
    RF ((((((((((w.setCell ⟨D, 0, none⟩ (.int .i64 m.kind)).setCell ⟨D, 1, none⟩ (.int .i64 m.src)).setCell ⟨D, 2, none⟩ (.int .i64 m.dst)).setCell ⟨D, 3, none⟩ (.int .i64 m.epoch)).setCell ⟨D, 4, none⟩ (.int .i64 m.seq)).setCell ⟨D, 5, none⟩ (.int .i64 m.off)).setCell ⟨D, 6, none⟩ (.int .i64 m.len)).setCell ⟨D, 7, none⟩ (.string m.data)).alloc (.cells (es.map (Value.int .i64)).toArray 28)).drew) (some ⟨w.heap.size, 0, none⟩) es.length es.length es ∧
    Below B w0 ((((((((((w.setCell ⟨D, 0, none⟩ (.int .i64 m.kind)).setCell ⟨D, 1, none⟩ (.int .i64 m.src)).setCell ⟨D, 2, none⟩ (.int .i64 m.dst)).setCell ⟨D, 3, none⟩ (.int .i64 m.epoch)).setCell ⟨D, 4, none⟩ (.int .i64 m.seq)).setCell ⟨D, 5, none⟩ (.int .i64 m.off)).setCell ⟨D, 6, none⟩ (.int .i64 m.len)).setCell ⟨D, 7, none⟩ (.string m.data)).alloc (.cells (es.map (Value.int .i64)).toArray 28)).drew) := by
  have h8 := h.eight m
  have b8 := below_eight hB hD m
  have hz : ((((((((w.setCell ⟨D, 0, none⟩ (.int .i64 m.kind)).setCell ⟨D, 1, none⟩ (.int .i64 m.src)).setCell ⟨D, 2, none⟩ (.int .i64 m.dst)).setCell ⟨D, 3, none⟩ (.int .i64 m.epoch)).setCell ⟨D, 4, none⟩ (.int .i64 m.seq)).setCell ⟨D, 5, none⟩ (.int .i64 m.off)).setCell ⟨D, 6, none⟩ (.int .i64 m.len)).setCell ⟨D, 7, none⟩ (.string m.data)).heap.size = w.heap.size := by simp [World.setCell]
  generalize ((((((((w.setCell ⟨D, 0, none⟩ (.int .i64 m.kind)).setCell ⟨D, 1, none⟩ (.int .i64 m.src)).setCell ⟨D, 2, none⟩ (.int .i64 m.dst)).setCell ⟨D, 3, none⟩ (.int .i64 m.epoch)).setCell ⟨D, 4, none⟩ (.int .i64 m.seq)).setCell ⟨D, 5, none⟩ (.int .i64 m.off)).setCell ⟨D, 6, none⟩ (.int .i64 m.len)).setCell ⟨D, 7, none⟩ (.string m.data)) = W at h8 b8 hz ⊢
  have hbW : Below W.heap.size W ((W.alloc (.cells (es.map (Value.int .i64)).toArray 28)).drew) := ((Below.refl _ _).alloc (Nat.le_refl _) _).drew
  have hn := heap_alloc_new W (.cells (es.map (Value.int .i64)).toArray 28)
  rw [hz] at hn
  refine ⟨h8.below hbW, ⟨rfl, Nat.le_refl _, .inr ⟨_, rfl, fun j x hx => ?_⟩⟩, b8.trans (hbW.mono (Nat.le_trans hD (Nat.le_of_lt h8.lt)))⟩
  rw [cells_at (w := (W.alloc (.cells (es.map (Value.int .i64)).toArray 28)).drew) hn]
  simp [hx]

/-- The message of noughts is stored, and a list of errors is made. -/
theorem MB.zeroEnd {w0 w : World} {D : Nat} {m0 : M} {B : Nat} (h : MB w D m0) (hB : Below B w0 w) (hD : B ≤ D) (es : List Int) (cs : Array Value) (hcs : cs = (es.map (Value.int .i64)).toArray) :
    ∃ wF, wF = ((((((((((w.setCell ⟨D, 0, none⟩ (.int .i64 0)).setCell ⟨D, 1, none⟩ (.int .i64 0)).setCell ⟨D, 2, none⟩ (.int .i64 0)).setCell ⟨D, 3, none⟩ (.int .i64 0)).setCell ⟨D, 4, none⟩ (.int .i64 0)).setCell ⟨D, 5, none⟩ (.int .i64 0)).setCell ⟨D, 6, none⟩ (.int .i64 0)).setCell ⟨D, 7, none⟩ (.string ⟨#[]⟩)).alloc (.cells cs 28)).drew) ∧ MB wF D M.zero ∧ RF wF (some ⟨w.heap.size, 0, none⟩) es.length es.length es ∧ Below B w0 wF := by
  subst hcs
  exact ⟨_, rfl, h.endAt hB hD M.zero es⟩

/-- A list of errors that a row owns, behind a store elsewhere. -/
theorem endRow {w2 wF : World} {D lo : Nat} {v : Value} {es : List Int} (hown : w2.ownsRow lo 28 1 v es.length (es.map (Value.int .i64))) (hk : ∀ k, k ≠ D → wF.heap[k]? = w2.heap[k]?) (hD : D < lo) : ∃ A c, v = .slice A es.length c ∧ RF wF A es.length c es := by
  obtain ⟨A, c, hv, hr⟩ := RF.of_owned hown
  refine ⟨A, c, hv, hr.keep hk (fun g hg => ?_)⟩
  subst hv hg
  have := (hown.lt g rfl).1
  omega
theorem own_one (w : World) (x : Int) (lo : Nat) (h : lo = w.heap.size) : (w.alloc (.cells #[.int .i64 x] 28)).ownsRow lo 28 1 (.slice (some ⟨lo, 0, none⟩) 1 1) 1 [.int .i64 x] := by
  subst h
  exact ⟨rfl, .inr ⟨w.heap.size, 1, #[.int .i64 x], rfl, Nat.le_refl _, heap_alloc_new w _, by simp [maxLen]⟩⟩
theorem RF.cells {w : World} {A : Option Addr} {k c : Nat} {x : Int} {xs : List Int} (h : RF w A k c (x :: xs)) : ∃ g, A = some ⟨g, 0, none⟩ ∧ k = xs.length + 1 ∧ ∀ (j : Nat) (u : Value), ((x :: xs).map (Value.int .i64))[j]? = some u → w.cell? ((⟨g, 0, none⟩ : Addr).add j) = some u := by
  obtain ⟨h1, h2, h3⟩ := h
  rcases h3 with ⟨h, _⟩ | ⟨g, hA, hc⟩
  · cases h
  · refine ⟨g, hA, by simpa using h1.symm, fun j u hu => ?_⟩
    rw [List.getElem?_map] at hu
    obtain ⟨y, hy, rfl⟩ := Option.map_eq_some_iff.1 hu
    have e : (⟨g, 0, none⟩ : Addr).add j = ⟨g, j, none⟩ := by by_cases hj : j = 0 <;> simp [Addr.add, hj]
    rw [e]; exact hc j y hy

theorem infoInt : (Tryd.prog.info? 3).map (fun i => (i.zero, i.size, i.bytes)) = some (some (.int .i64 0), 1, 8) := by kernel_rfl
/-- What is kept through the loop of the document's Decode, at place i. -/
structure Rst (w wr : World) (Wd R lo : Nat) (t : ByteArray) (i : Nat) (s : Value) : Prop where
  le : i ≤ 7
  ok : ∀ j, j < i → numE t j = []
  rdr : Rdr wr R t (pos i)
  wds : ∀ j, j < 7 → wr.cell? ⟨Wd, j, none⟩ = some (.int .i64 (wid j))
  res : MB wr w.heap.size M.zero
  own : wr.ownsRow lo 3 1 s i ((List.range i).map fun j => .int .i64 (numV t j))
  below : Below w.heap.size w wr
  lo : lo ≤ wr.heap.size

theorem three_blocks (w : World) (o1 o2 o3 : Obj) : (((w.alloc o1).alloc o2).alloc o3).heap[w.heap.size]? = some o1 ∧ (((w.alloc o1).alloc o2).alloc o3).heap[w.heap.size + 1]? = some o2 ∧ (((w.alloc o1).alloc o2).alloc o3).heap[w.heap.size + 2]? = some o3 := by
  have e1 : (w.alloc o1).heap.size = w.heap.size + 1 := by simp
  have e2 : ((w.alloc o1).alloc o2).heap.size = w.heap.size + 2 := by simp
  have h2 := heap_alloc_new (w.alloc o1) o2
  have h3 := heap_alloc_new ((w.alloc o1).alloc o2) o3
  rw [e1] at h2
  rw [e2] at h3
  refine ⟨?_, ?_, h3⟩
  · rw [Below.heap_alloc _ _ _ (by omega), Below.heap_alloc _ _ _ (by omega)]; exact heap_alloc_new w o1
  · rw [Below.heap_alloc _ _ _ (by omega)]; exact h2
theorem rst0 (w w1 : World) (t : ByteArray) (hD : MB w1 w.heap.size M.zero) (hB : Below w.heap.size w w1) :
    Rst w (((w1.alloc (.cells #[.string t, .int .i64 0] 77)).alloc (.cells #[.int .i64 1, .int .i64 1, .int .i64 1, .int .i64 8, .int .i64 8, .int .i64 2, .int .i64 2] 3)).alloc (.cells #[] 3)) (w1.heap.size + 1) w1.heap.size (w1.heap.size + 2) t 0 (.slice (some ⟨w1.heap.size + 1 + 1, 0, none⟩) 0 0) := by
  obtain ⟨h1, h2, h3⟩ := three_blocks w1 (.cells #[.string t, .int .i64 0] 77) (.cells #[.int .i64 1, .int .i64 1, .int .i64 1, .int .i64 8, .int .i64 8, .int .i64 2, .int .i64 2] 3) (.cells #[] 3)
  have b3 : Below w1.heap.size w1 (((w1.alloc (.cells #[.string t, .int .i64 0] 77)).alloc (.cells #[.int .i64 1, .int .i64 1, .int .i64 1, .int .i64 8, .int .i64 8, .int .i64 2, .int .i64 2] 3)).alloc (.cells #[] 3)) :=
    (((Below.refl _ _).alloc (Nat.le_refl _) _).alloc (by simp) _).alloc (by simp; omega) _
  have hz : (((w1.alloc (.cells #[.string t, .int .i64 0] 77)).alloc (.cells #[.int .i64 1, .int .i64 1, .int .i64 1, .int .i64 8, .int .i64 8, .int .i64 2, .int .i64 2] 3)).alloc (.cells #[] 3)).heap.size = w1.heap.size + 3 := by simp
  generalize (((w1.alloc (.cells #[.string t, .int .i64 0] 77)).alloc (.cells #[.int .i64 1, .int .i64 1, .int .i64 1, .int .i64 8, .int .i64 8, .int .i64 2, .int .i64 2] 3)).alloc (.cells #[] 3)) = W at h1 h2 h3 b3 hz ⊢
  refine ⟨by omega, fun j hj => by omega, ⟨by rw [cells_at h1]; rfl, by rw [cells_at h1]; rfl, by unfold World.frozen?; simp only [h1]; simp⟩, fun j hj => ?_, hD.below b3, ?_, hB.trans (b3.mono hB.size), by omega⟩
  · rw [cells_at h2]
    match j, hj with
    | 0, _ => rfl
    | 1, _ => rfl
    | 2, _ => rfl
    | 3, _ => rfl
    | 4, _ => rfl
    | 5, _ => rfl
    | 6, _ => rfl
  · exact ⟨rfl, .inr ⟨w1.heap.size + 2, 0, #[], rfl, Nat.le_refl _, h3, by simp [maxLen]⟩⟩
theorem ownsRow_fr {w w' : World} {R lo : Nat} {e : TypeId} {v : Value} {n : Nat} {xs : List Value} (h : w.ownsRow lo e 1 v n xs) (hf : Fr R none w w') (hR : R < lo) : w'.ownsRow lo e 1 v n xs := by
  obtain ⟨h1, h2⟩ := h
  refine ⟨h1, ?_⟩
  rcases h2 with h2 | ⟨g, cap, cur, hv, hg, hh, r⟩
  · exact .inl h2
  · refine .inr ⟨g, cap, cur, hv, hg, ?_, r⟩
    rw [hf.block g (blk_lt hh) (by omega) (by simp)]; exact hh

/-- What is kept behind the numbers, in the document's Decode: the result's place, the numbers, the fault in block F and the list of errors behind it. -/
structure Tst (w x : World) (R F : Nat) (t : ByteArray) (sv : Value) (A : Option Addr) (k c : Nat) (at_ : Int) : Prop where
  res : MB x w.heap.size M.zero
  below : Below w.heap.size w x
  own : x.ownsRow (R + 2) 3 1 sv 7 ((List.range 7).map fun j => .int .i64 (numV t j))
  flt : x.heap[F]? = some (.cells #[.slice A k c, .int .i64 at_] 63 (0, 0))
  bad : x.ownsRow (F + 1) 28 1 (.slice (some ⟨F + 1, 0, none⟩) 1 1) 1 [.int .i64 30]
  sz : F + 2 ≤ x.heap.size
theorem Tst.next {w x x' : World} {R F : Nat} {t : ByteArray} {sv : Value} {A : Option Addr} {k c : Nat} {at_ : Int} (h : Tst w x R F t sv A k c at_) (hb : Below x.heap.size x x') : Tst w x' R F t sv A k c at_ :=
  ⟨h.res.below hb, h.below.trans (hb.mono h.below.size), ownsRow_below hb h.own, (hb.block F (blk_lt h.flt)).trans h.flt, ownsRow_below hb h.bad, Nat.le_trans h.sz hb.size⟩

theorem ownsRow_keep {w w' : World} {F lo n : Nat} {e ty : TypeId} {cs : Array Value} {fr : Nat × Nat} {v : Value} {xs : List Value} (hk : ∀ k, k ≠ F → w'.heap[k]? = w.heap[k]?) (hF : w.heap[F]? = some (.cells cs ty fr)) (hty : ty ≠ e) (h : w.ownsRow lo e 1 v n xs) : w'.ownsRow lo e 1 v n xs := by
  obtain ⟨h1, h2⟩ := h
  refine ⟨h1, ?_⟩
  rcases h2 with h2 | ⟨g, cap, cur, hv, hg, hh, r⟩
  · exact .inl h2
  · refine .inr ⟨g, cap, cur, hv, hg, ?_, r⟩
    rw [hk g (fun e => by
      subst e
      rw [hF] at hh
      injection hh with hh
      injection hh with _ hh
      exact hty hh)]
    exact hh
/-- Another fault is stored in block F. -/
theorem Tst.setF {w x : World} {R F : Nat} {t : ByteArray} {sv : Value} {A : Option Addr} {k c : Nat} {at_ : Int} (h : Tst w x R F t sv A k c at_) (hD : w.heap.size < F) (A2 : Option Addr) (k2 c2 : Nat) (at2 : Int) :
    Tst w ((x.setCell ⟨F, 0, none⟩ (.slice A2 k2 c2)).setCell ⟨F, 1, none⟩ (.int .i64 at2)) R F t sv A2 k2 c2 at2 := by
  have hk : ∀ j, j ≠ F → ((x.setCell ⟨F, 0, none⟩ (.slice A2 k2 c2)).setCell ⟨F, 1, none⟩ (.int .i64 at2)).heap[j]? = x.heap[j]? := fun j hj => by
    rw [Below.heap_setCell _ _ _ _ (by simpa using hj), Below.heap_setCell _ _ _ _ (by simpa using hj)]
  refine ⟨?_, (h.below.setCell (Nat.le_of_lt hD) _).setCell (Nat.le_of_lt hD) _, ownsRow_keep hk h.flt (by decide) h.own, ?_, ownsRow_keep hk h.flt (by decide) h.bad, by simp [World.setCell]; exact h.sz⟩
  · unfold MB; rw [hk _ (by omega)]; exact h.res
  · exact heap_setCell (heap_setCell h.flt 0 _) 1 _
theorem RF.setF {w x : World} {R F : Nat} {t : ByteArray} {sv : Value} {A A2 : Option Addr} {k c k2 c2 : Nat} {at_ at2 : Int} {es : List Int} (hr : RF x A2 k2 c2 es) (h : Tst w x R F t sv A k c at_) : RF ((x.setCell ⟨F, 0, none⟩ (.slice A2 k2 c2)).setCell ⟨F, 1, none⟩ (.int .i64 at2)) A2 k2 c2 es := by
  have hk : ∀ j, j ≠ F → ((x.setCell ⟨F, 0, none⟩ (.slice A2 k2 c2)).setCell ⟨F, 1, none⟩ (.int .i64 at2)).heap[j]? = x.heap[j]? := fun j hj => by
    rw [Below.heap_setCell _ _ _ _ (by simpa using hj), Below.heap_setCell _ _ _ _ (by simpa using hj)]
  obtain ⟨h1, h2, h3⟩ := hr
  refine ⟨h1, h2, ?_⟩
  rcases h3 with h3 | ⟨g, hA, hc⟩
  · exact .inl h3
  · refine .inr ⟨g, hA, fun j y hj => ?_⟩
    have hg : g ≠ F := fun e => by
      subst e
      have h0 : ∃ z, es[0]? = some z := by
        cases es with
        | nil => simp at hj
        | cons z zs => exact ⟨z, rfl⟩
      obtain ⟨z, hz⟩ := h0
      have := hc 0 z hz
      rw [cells_at h.flt 0] at this
      simp at this
    rw [World.cell?_of_block (w := x) (a := ⟨g, j, none⟩) (hk g hg)]; exact hc j y hj

set_option maxRecDepth 100000 in
set_option maxHeartbeats 8000000 in
theorem rdecode_yes (s t : ByteArray) (w : World) (hs : s.size ≤ 1000000) (ho : openOf s = (t, true)) :
    Calls Tryd.prog 13 #[.string s] w fun e w' => ∃ A k c, e = .returned (.tuple #[(outM t).val, .slice A k c]) ∧ RF w' A k c (outE t) ∧ Below w.heap.size w w' := by
  have hts : t.size ≤ 1000000 := by have := openOf_size s; rw [ho] at this; exact Nat.le_trans this hs
  obtain ⟨i0, hi, iz0, iz1, iz2⟩ := info_parts infoInt
  obtain ⟨e0, eh0, ez0, ez1, ez2⟩ := info_parts infoErrno
  have HB0 := Lib.hid (show Below w.heap.size w (w.alloc (.cells M.zero.cells 23)) from (Below.refl _ _).alloc (Nat.le_refl _) _)
  have HD0 := Lib.hid (MB.fresh w M.zero)
  have HO := Lib.hid (fun W => ropen_any s W (by omega))
  rw [ho] at HO
  clear ho
  go_enter Tryd.func13, Tryd.ntmps13
  go_wp2_with fail
  go_at_call 33
  refine (HO.out _).mono ?_
  rintro e w1 ⟨rfl, hb1⟩
  have HD1 := Lib.hid (HD0.out.below hb1)
  have HB1 := Lib.hid (HB0.out.trans (hb1.mono HB0.out.size))
  clear HD0 HB0 HO hb1
  have hz1 := HD1.out.lt
  have HX := Lib.hid (rst0 w w1 t HD1.out HB1.out)
  clear HD1 HB1
  go_wp2_with fail
  generalize (((w1.alloc (.cells #[.string t, .int .i64 0] 77)).alloc (.cells #[.int .i64 1, .int .i64 1, .int .i64 1, .int .i64 8, .int .i64 8, .int .i64 2, .int .i64 2] 3)).alloc (.cells #[] 3)) = w5 at HX ⊢
  generalize w1.heap.size = R at *
  go_loopw [8, 9] (fun sv iv wr => ∃ i : Nat, iv = .int .i64 i ∧ Rst w wr (R + 1) R (R + 2) t i sv) (fun _ iv _ => 7 - (intOf iv).toNat)
  case atStart => exact ⟨0, rfl, HX.out⟩
  case round =>
    obtain ⟨i, rfl, hd⟩ := hrel
    clear HX
    have hle := hd.le
    have hi0 : (0 : Int) ≤ (i : Int) := by omega
    have hlw := hd.lo
    by_cases hlt : i < 7
    · have hiI : (i : Int) < 7 := by omega
      have hw := hd.wds i hlt
      have hpz : pos i ≤ t.size := by
        rcases i with _ | i
        · exact Nat.zero_le _
        · exact (numE_ok (hd.ok i (by omega))).1
      have HN := Lib.hid (rrnum_i R i t wr hlt hd.rdr hpz (by omega))
      have HD := Lib.hid hd
      clear hd hpz
      go_wp2_with fail
      go_at_call 34
      refine HN.out.mono ?_
      rintro e wa ⟨n, A, k, c, at_, rfl, hrf, hgo, hf⟩
      have hza := hf.size
      have hba : Below wa.heap.size wa (wa.alloc (.cells #[.slice A k c, .int .i64 at_] 63)) := (Below.refl _ _).alloc (Nat.le_refl _) _
      have hkl : k ≤ 1 := by
        have := hrf.1
        rcases numE_form t i with h | ⟨x, h, _⟩
        · rw [h] at this; simp at this; omega
        · rw [h] at this; simp at this; omega
      have HRF := Lib.hid (hrf.below hba)
      have HF0 := Lib.hid (show (wa.alloc (.cells #[.slice A k c, .int .i64 at_] 63)).heap[wa.heap.size]? = some (.cells #[.slice A k c, .int .i64 at_] 63 (0, 0)) from heap_alloc_new wa _)
      have HBA := Lib.hid hba
      have hlo' : R + 2 ≤ wa.heap.size := by omega
      have hDl := HD.out.res.lt
      have HRes := Lib.hid ((HD.out.res.fr hf (by omega) (by simp)).below hba)
      have HWds := Lib.hid (fun j (hj : j < 7) => (show wa.cell? ⟨R + 1, j, none⟩ = some (.int .i64 (wid j)) by
        have hh := HD.out.wds j hj
        rw [World.cell?_of_block (w := wr) (a := ⟨R + 1, j, none⟩) (hf.block (R + 1) (cell_lt hh) (by simp) (by simp))]; exact hh))
      have HBel := Lib.hid (HD.out.below.trans ((hf.below (by omega) (fun g hg => by cases hg)).mono (by have := HD.out.res.lt; omega)))
      have HOwn := Lib.hid (ownsRow_fr HD.out.own hf (by omega))
      have HGO := Lib.hid hgo
      have HOK := Lib.hid HD.out.ok
      clear hrf hgo hf hba HN HD hw
      go_wp2_with fail
      go_at_call 35
      refine (rcode_any A k c (numE t i) at_ _ HRF.out (by omega)).mono ?_
      rintro e wb ⟨rfl, hbb⟩
      have hzb := hbb.size
      have hab : Below wa.heap.size wa wb := HBA.out.trans (hbb.mono HBA.out.size)
      have HResb := Lib.hid (HRes.out.below hbb)
      have HRFb := Lib.hid (HRF.out.below hbb)
      have HFb := Lib.hid ((hbb.block _ (blk_lt HF0.out)).trans HF0.out)
      have HOwnb := Lib.hid (ownsRow_below hab HOwn.out)
      have HWdsb := Lib.hid (fun j (hj : j < 7) => (show wb.cell? ⟨R + 1, j, none⟩ = some (.int .i64 (wid j)) by
        rw [hab.cell (p := ⟨R + 1, j, none⟩) (by simp; omega)]; exact HWds.out j hj))
      have HBelb := Lib.hid (HBel.out.trans (hab.mono HBel.out.size))
      have HGOb := Lib.hid (fun h => (⟨(HGO.out h).1, (HGO.out h).2.below hab⟩ : n = numV t i ∧ Rdr wb R t (pos (i + 1))))
      have hzab := hab.size
      have hDR : w.heap.size < R := by omega
      clear HRes HRF HF0 HOwn HWds HBel HGO HBA hbb hab hzb
      rcases numE_form t i with he | ⟨x, he, hx⟩
      · obtain ⟨rfl, hrd⟩ := HGOb.out he
        rw [he]
        have HRd := Lib.hid hrd
        have HE := Lib.hid he
        have HOx := Lib.hid (HOwnb.out.alloc (.cells #[.int .i64 (numV t i)] 3))
        have HBx := Lib.hid (HBelb.out.alloc (by omega) (.cells #[.int .i64 (numV t i)] 3))
        clear hrd HGOb HOwnb he HFb HRFb
        go_wp2_with (at_builtin; refine wpList_append_own _ rfl (.tmp 55) (.tmp 57) 78 rfl (R + 2) 3 i0 (.int .i64 0) 1 8 Tryd.underlying78 hi iz0 iz1 iz2 rfl (by decide) _ _ _ rfl HOx.out ⟨wb.heap.size, 0, none⟩ 1 1 [.int .i64 (numV t i)] rfl rfl ?c1 ?c2 ?c3 ?c4 ?c5 ?_)
        case c1 =>
          intro j u hj
          match j, hj with
          | 0, hj => simp at hj; subst hj; simp [Addr.add]
        case c2 => intro u hu; simp at hu; subst hu; rfl
        case c3 => unfold maxLen; omega
        case c4 => omega
        case c5 => simp; omega
        · intro v' w2 hown2 hgrow _
          have hb2 : Below (R + 2) wb w2 := Below.grown ((Below.refl (R + 2) wb).alloc (by omega) _) hgrow (by simp; omega) (fun k hk => (HOx.out.lt k hk).1)
          have HN := Lib.hid (show Rst w w2 (R + 1) R (R + 2) t (i + 1) v' from by
            refine ⟨by omega, fun j hj => ?_, HRd.out.belowB hb2 (by omega), fun j hj => ?_, ?_, ?_, HBelb.out.trans (hb2.mono (by omega)), Nat.le_trans (by omega) hb2.size⟩
            · by_cases e : j = i
              · subst e; exact HE.out
              · exact HOK.out j (by omega)
            · rw [hb2.cell (p := ⟨R + 1, j, none⟩) (by simp)]; exact HWdsb.out j hj
            · unfold MB; rw [hb2.block w.heap.size (by omega)]; exact HResb.out
            · rw [List.range_succ, List.map_append]; exact hown2)
          clear HRd HOx HBx HResb HWdsb HBelb HE HOK hown2 hgrow hb2
          go_wp2
          go_roundw
          case rel => exact ⟨i + 1, by go_num, HN.out⟩
          case measure => simp [intOf]; omega
      · obtain ⟨hk1, hkc, hA⟩ := HRFb.out
        rw [he] at hk1 hA
        obtain rfl : k = 1 := by simpa using hk1.symm
        rcases hA with ⟨h, _⟩ | ⟨g, rfl, hcg⟩
        · cases h
        · have cg := hcg 0 x rfl
          have cF := cells_at HFb.out 0
          simp at cF
          have hx2 : (x == 0) = false := by simpa using hx
          have hx3 : (x != 0) = true := by simpa using hx
          obtain ⟨hoM, hoE⟩ := out_bad (t := t) (k := i) (by omega) (by rw [stepE_num hlt, he]; simp) (fun j hj => by rw [stepE_num (by omega)]; exact HOK.out j hj)
          rw [stepE_num hlt, he] at hoE
          have HOM := Lib.hid hoM
          have HOE := Lib.hid hoE
          rw [he]
          clear HGOb HOwnb he HFb HRFb HWdsb hcg hk1 HOK hoM hoE
          go_wp2_with fail
          obtain ⟨c0, c1, c2, c3, c4, c5, c6, c7⟩ := HResb.out.mat.all
          have f0 := HResb.out.free 0
          have f1 := HResb.out.free 1
          have f2 := HResb.out.free 2
          have f3 := HResb.out.free 3
          have f4 := HResb.out.free 4
          have f5 := HResb.out.free 5
          have f6 := HResb.out.free 6
          have f7 := HResb.out.free 7
          have hne : w.heap.size ≠ wb.heap.size := by omega
          have hne' : wb.heap.size ≠ w.heap.size := by omega
          have hlb : w.heap.size < wb.heap.size := by omega
          have hgD : g ≠ w.heap.size := fun e => by
            subst e
            rw [c0] at cg
            injection cg with cg
            injection cg with _ cg
            exact hx cg.symm
          have hgD' : w.heap.size ≠ g := fun e => hgD e.symm
          have hFD : wa.heap.size ≠ w.heap.size := by omega
          go_region
          obtain ⟨wF, hwF, hMF, hRF, hBF⟩ := HResb.out.zeroEnd HBelb.out (by omega) [30, x] #[.int .i64 30, .int .i64 x] rfl
          rw [← hwF]
          obtain ⟨k0, k1, k2, k3, k4, k5, k6, k7⟩ := hMF.mat.all
          have HRF := Lib.hid hRF
          have HBF := Lib.hid hBF
          clear c0 c1 c2 c3 c4 c5 c6 c7 f0 f1 f2 f3 f4 f5 f6 f7 HResb HBelb hwF hMF hRF hBF cg cF hgD hgD' hFD hne hne'
          go_wp2
          refine bodyPost_ret (v := .tuple #[M.zero.val, .slice (some ⟨wb.heap.size, 0, none⟩) 2 2]) (by simp [results, Tryd.results13, go_sem, k0, k1, k2, k3, k4, k5, k6, k7]) rfl ?_
          rw [HOM.out, HOE.out]
          exact ⟨_, _, _, rfl, HRF.out, HBF.out⟩
    · obtain rfl : i = 7 := by omega
      have hiI : ¬ ((7 : Nat) : Int) < 7 := by omega
      have hpz : 23 ≤ t.size := (numE_ok (hd.ok 6 (by omega))).1
      have HN := Lib.hid (rrtext_t R t wr hd.rdr hpz (by omega))
      have HD := Lib.hid hd
      have hDl := hd.res.lt
      clear hd hpz
      go_wp2_with fail
      go_at_call 36
      refine HN.out.mono ?_
      rintro e wa ⟨d, A, k, c, at_, rfl, hrf, hgo, hf⟩
      have hza := hf.size
      have hDw := HD.out.res.lt
      have HRes := Lib.hid (HD.out.res.fr hf (by omega) (by simp))
      have HBel := Lib.hid (HD.out.below.trans ((hf.below (by omega) (fun g hg => by cases hg)).mono (by omega)))
      have HOwn := Lib.hid (ownsRow_fr HD.out.own hf (by omega))
      have HOK := Lib.hid HD.out.ok
      have HRF := Lib.hid hrf
      have HGO := Lib.hid hgo
      clear HD HN hrf hgo hf
      have HX := Lib.hid (show Tst w ((wa.alloc (.cells #[.slice A k c, .int .i64 at_] 63)).alloc (.cells #[.int .i64 30] 28)) R wa.heap.size t u8 A k c at_ from by
        have b1 : Below wa.heap.size wa (wa.alloc (.cells #[.slice A k c, .int .i64 at_] 63)) := (Below.refl _ _).alloc (Nat.le_refl _) _
        have e1 : (wa.alloc (.cells #[.slice A k c, .int .i64 at_] 63)).heap.size = wa.heap.size + 1 := by simp
        have b2 : Below wa.heap.size wa ((wa.alloc (.cells #[.slice A k c, .int .i64 at_] 63)).alloc (.cells #[.int .i64 30] 28)) := b1.alloc (by omega) _
        refine ⟨HRes.out.below b2, HBel.out.trans (b2.mono HBel.out.size), ownsRow_below b2 HOwn.out, ?_, own_one _ 30 _ e1.symm, by simp⟩
        rw [Below.heap_alloc _ _ _ (by omega)]
        exact heap_alloc_new wa _)
      have HRx := Lib.hid (HRF.out.below (((Below.refl _ _).alloc (Nat.le_refl _) (.cells #[.slice A k c, .int .i64 at_] 63)).alloc (by simp) (.cells #[.int .i64 30] 28)))
      have HGx := Lib.hid (fun h => (⟨(HGO.out h).1, (HGO.out h).2.below (((Below.refl _ _).alloc (Nat.le_refl _) (.cells #[.slice A k c, .int .i64 at_] 63)).alloc (by simp) (.cells #[.int .i64 30] 28))⟩ : d = textV t ∧ Rdr ((wa.alloc (.cells #[.slice A k c, .int .i64 at_] 63)).alloc (.cells #[.int .i64 30] 28)) R t (25 + (tL t).toNat)))
      have hRF : R + 2 ≤ wa.heap.size := by omega
      have hDR : w.heap.size < R := by omega
      clear HRes HBel HOwn HRF HGO
      go_wp2_with fail
      generalize (wa.alloc (.cells #[.slice A k c, .int .i64 at_] 63)).alloc (.cells #[.int .i64 30] 28) = x0 at HX HRx HGx ⊢
      generalize wa.heap.size = F at *
      have hk3 : k ≤ 1000 := by
        have := HRx.out.1
        rcases textE_form t with h | ⟨x, xs, h, _, hl⟩
        · rw [h] at this; simp at this; omega
        · rw [h] at this; simp at this; omega
      go_at_call 35
      refine (rcode_any A k c (textE t) at_ _ HRx.out hk3).mono ?_
      rintro e x1 ⟨rfl, hb1⟩
      have HX1 := Lib.hid (HX.out.next hb1)
      have HRx1 := Lib.hid (HRx.out.below hb1)
      have HGx1 := Lib.hid (fun h => (⟨(HGx.out h).1, (HGx.out h).2.below hb1⟩ : d = textV t ∧ Rdr x1 R t (25 + (tL t).toNat)))
      clear HX HRx HGx hb1
      rcases textE_form t with he | ⟨x, xs, he, hx, hxl⟩
      · obtain ⟨rfl, hrd⟩ := HGx1.out he
        have HE := Lib.hid he
        have HN := Lib.hid (rrend_t R t x1 hrd he)
        rw [he]
        have hx2 : ([] : List Int).headD 0 = 0 := rfl
        clear HGx1 HRx1 hrd he
        go_wp2_with fail
        go_at_call 37
        refine HN.out.mono ?_
        rintro e x2 ⟨A2, k2, c2, at2, rfl, hrf2, hb2⟩
        have HX2 := Lib.hid (HX1.out.next hb2)
        have HX3 := Lib.hid (HX2.out.setF (by omega) A2 k2 c2 at2)
        have HR3 := Lib.hid (hrf2.setF (at2 := at2) HX2.out)
        have cF0 := cells_at HX2.out.flt 0
        have cF1 := cells_at HX2.out.flt 1
        simp at cF0 cF1
        have fF0 : x2.frozen? ⟨F, 0, none⟩ = false := by unfold World.frozen?; simp only [HX2.out.flt]; simp
        have fF1 : x2.frozen? ⟨F, 1, none⟩ = false := by unfold World.frozen?; simp only [HX2.out.flt]; simp
        have hk4 : k2 ≤ 1000 := by
          have := hrf2.1
          unfold endE at this
          split at this <;> simp at this <;> omega
        clear HX1 HX2 hrf2 hb2 HN
        go_wp2_with fail
        generalize ((x2.setCell ⟨F, 0, none⟩ (.slice A2 k2 c2)).setCell ⟨F, 1, none⟩ (.int .i64 at2)) = x3 at HX3 HR3 ⊢
        go_at_call 35
        refine (rcode_any A2 k2 c2 (endE t) at2 _ HR3.out hk4).mono ?_
        rintro e x4 ⟨rfl, hb4⟩
        have HX4 := Lib.hid (HX3.out.next hb4)
        have HRx4 := Lib.hid (HR3.out.below hb4)
        clear HX3 HR3 hb4 cF0 cF1 fF0 fF1
        by_cases hen : endE t = []
        · have hown := HX4.out.own
          rcases owned_form hown with ⟨_, _, h⟩ | ⟨gn, capn, rfl, hcell⟩
          · omega
          · skip
            have n0 := hcell 0 (.int .i64 (numV t 0)) rfl
            have n1 := hcell 1 (.int .i64 (numV t 1)) rfl
            have n2 := hcell 2 (.int .i64 (numV t 2)) rfl
            have n3 := hcell 3 (.int .i64 (numV t 3)) rfl
            have n4 := hcell 4 (.int .i64 (numV t 4)) rfl
            have n5 := hcell 5 (.int .i64 (numV t 5)) rfl
            have n6 := hcell 6 (.int .i64 (numV t 6)) rfl
            have HEN := Lib.hid hen
            have HK := Lib.hid (show Below x4.heap.size x4 ((x4.alloc (.cells (msgOf t).cells 23)).drew) from ((Below.refl _ _).alloc (Nat.le_refl _) _).drew)
            have HM5 := Lib.hid (MB.below (MB.fresh x4 (msgOf t)) ((Below.refl _ _).drew))
            have HX5 := Lib.hid (HX4.out.next HK.out)
            have hgnl : gn < x4.heap.size := cell_lt n0
            have hgne : x4.heap.size ≠ gn := by omega
            rw [hen]
            have hx2 : ([] : List Int).headD 0 = 0 := rfl
            clear hown hcell HRx4 hen HX4 HK
            go_wp2_with fail
            go_region_held3 (fun w' => w'.cell? ⟨gn, 0, none⟩ = some (.int .i64 (numV t 0)) ∧ w'.cell? ⟨gn, 1, none⟩ = some (.int .i64 (numV t 1)) ∧ w'.cell? ⟨gn, 2, none⟩ = some (.int .i64 (numV t 2)) ∧ w'.cell? ⟨gn, 3, none⟩ = some (.int .i64 (numV t 3)) ∧ w'.cell? ⟨gn, 4, none⟩ = some (.int .i64 (numV t 4)) ∧ w'.cell? ⟨gn, 5, none⟩ = some (.int .i64 (numV t 5)) ∧ w'.cell? ⟨gn, 6, none⟩ = some (.int .i64 (numV t 6)))
              (first | exact ⟨n0, n1, n2, n3, n4, n5, n6⟩ | go_keep | fail) (fail)
            go_wp2_with fail
            go_at_call 23
            refine (rcheck_any (msgOf t) _).mono ?_
            rintro e x6 ⟨rfl, hb6⟩
            have HX6 := Lib.hid (HX5.out.next hb6)
            have HM6 := Lib.hid (HM5.out.below hb6)
            clear HX5 HM5 hb6 n0 n1 n2 n3 n4 n5 n6 hgnl hgne
            generalize x4.heap.size = X at *
            have hok9 : ∀ j, j < 9 → stepE t j = [] := fun j hj => by
              by_cases e8 : j = 8
              · subst e8; rw [stepE_8]; exact HEN.out
              · by_cases e7 : j = 7
                · subst e7; rw [stepE_7]; exact HE.out
                · rw [stepE_num (by omega)]; exact HOK.out j (by omega)
            by_cases hck : (msgOf t).chk = 0
            · have HOUT := Lib.hid (out_ok (t := t) (fun j hj => by
                by_cases e9 : j = 9
                · subst e9; rw [stepE_9, hck]; rfl
                · exact hok9 j (by omega)))
              have HD2 := Lib.hid HX6.out.res
              have HB2 := Lib.hid HX6.out.below
              obtain ⟨g0, g1, g2, g3, g4, g5, g6, g7⟩ := HM6.out.mat.all
              clear hok9 HX6 HM6 HOK HE HEN
              rw [hck]
              clear hck
              go_wp2_with (with_reducible show wpList _ _ _ (Oper.mk none (Op.store 23 (.tmp 2) _) _ _ _ _ :: _) _ _; refine wpList_store_msg rfl (.tmp 2) (.tmp 115) rfl w.heap.size (msgOf t) M.zero rfl rfl HD2.out _ _ HB2.out (Nat.le_refl _) ?_; intro wF hMF hBF hkF hzF; (have HBF := Lib.hid hBF); (obtain ⟨k0, k1, k2, k3, k4, k5, k6, k7⟩ := hMF.mat.all); clear hMF hBF hkF hzF)
              refine bodyPost_ret (v := .tuple #[(msgOf t).val, .slice none 0 0]) (by simp [results, Tryd.results13, go_sem, k0, k1, k2, k3, k4, k5, k6, k7]) rfl ?_
              rw [HOUT.out.1, HOUT.out.2]
              exact ⟨none, 0, 0, rfl, RF.none_, HBF.out⟩
            · have HOUT := Lib.hid (show outM t = M.zero ∧ outE t = [30, (msgOf t).chk] from by
                have h := out_bad (t := t) (k := 9) (by omega) (by rw [stepE_9, errOf_bad hck]; simp) hok9
                rw [stepE_9, errOf_bad hck] at h; exact h)
              clear hok9 HM6 HOK HE HEN
              generalize (msgOf t).chk = ce at *
              have hx2' : (ce == 0) = false := by simpa using hck
              have hx3 : (ce != 0) = true := by simpa using hck
              have HBad := Lib.hid HX6.out.bad
              have hszX := HX6.out.sz
              have HBadX := Lib.hid (HBad.out.alloc (.cells #[.int .i64 ce] 28))
              have HCE := Lib.hid (show ∀ (j : Nat) (u : Value), ([ce].map (Value.int .i64))[j]? = some u → (x6.alloc (.cells #[.int .i64 ce] 28)).cell? ((⟨x6.heap.size, 0, none⟩ : Addr).add j) = some u from fun j u hj => by
                match j, hj with
                | 0, hj => simp at hj; subst hj; simp [Addr.add])
              obtain ⟨hoM, hoE⟩ := HOUT.out
              have HOM := Lib.hid hoM
              have HOE := Lib.hid hoE
              clear hoM hoE
              go_wp2_with (first
                | (at_builtin; refine wpList_append_own _ rfl (.tmp 111) (.tmp 113) 33 rfl (F + 1) 28 e0 (.int .i64 0) 1 8 Tryd.underlying33 eh0 ez0 ez1 ez2 rfl (by decide) _ _ _ rfl HBadX.out ⟨x6.heap.size, 0, none⟩ 1 1 ([ce].map (Value.int .i64)) rfl (by simp) HCE.out (nums_oneCell _ _) (by unfold maxLen; omega) (by omega) (by simp; omega) ?_; intro v2 w2 hown2 hgrow _; (have hb2 : Below (F + 1) x6 w2 := Below.grown ((Below.refl (F + 1) x6).alloc (by omega) _) hgrow (by simp; omega) (fun k hk => (HBadX.out.lt k hk).1)); (have HD2 := Lib.hid (show MB w2 w.heap.size M.zero from by unfold MB; rw [hb2.block w.heap.size (by omega)]; exact HX6.out.res)); (have HB2 := Lib.hid (show Below w.heap.size w w2 from HX6.out.below.trans (hb2.mono (by omega)))); (have HO2 := Lib.hid (show w2.ownsRow (F + 1) 28 1 v2 (30 :: ([ce])).length ((30 :: ([ce])).map (Value.int .i64)) from hown2)); clear hown2 hgrow hb2)
                | (with_reducible show wpList _ _ _ (Oper.mk none (Op.store 23 (.tmp 2) _) _ _ _ _ :: _) _ _; refine wpList_store_msg rfl (.tmp 2) (.tmp 110) rfl w.heap.size M.zero M.zero rfl rfl HD2.out _ _ HB2.out (Nat.le_refl _) ?_; intro wF hMF hBF hkF hzF; (have HBF := Lib.hid hBF); (have HEF := Lib.hid (endRow HO2.out hkF (by omega))); (obtain ⟨k0, k1, k2, k3, k4, k5, k6, k7⟩ := hMF.mat.all); clear hMF hBF hkF hzF)
                | fail)
              obtain ⟨A2, c2, hv2, hr2⟩ := HEF.out
              refine bodyPost_ret (v := .tuple #[M.zero.val, v2]) (by simp [results, Tryd.results13, go_sem, k0, k1, k2, k3, k4, k5, k6, k7]) rfl ?_
              rw [HOM.out, HOE.out]
              exact ⟨A2, _, c2, by rw [hv2], hr2, HBF.out⟩
        · have hen : endE t = [11] := by
            unfold endE at hen ⊢
            split
            · rename_i h; rw [if_pos h] at hen; exact absurd rfl hen
            · rfl
          obtain ⟨x, hx11⟩ : ∃ x : Int, x = 11 := ⟨_, rfl⟩
          rw [← hx11] at hen
          have hx : x ≠ 0 := by omega
          have hrf := HRx4.out
          rw [hen] at hrf
          obtain ⟨g, rfl, hk1, hcell⟩ := hrf.cells
          have hk1' : k2 = 1 := hk1
          clear hk1
          subst hk1'
          have HCE := Lib.hid hcell
          have cF := cells_at HX4.out.flt 0
          simp at cF
          have hx2' : (x == 0) = false := by simpa using hx
          have hx3 : (x != 0) = true := by simpa using hx
          rw [hen]
          clear hrf hx11
          have HBad := Lib.hid HX4.out.bad
          have hszX := HX4.out.sz
          obtain ⟨hoM, hoE⟩ := out_bad (t := t) (k := 8) (by omega) (by rw [stepE_8, hen]; simp) (fun j hj => by by_cases e7 : j = 7; (subst e7; rw [stepE_7]; exact HE.out); rw [stepE_num (by omega)]; exact HOK.out j (by omega))
          have HOM := Lib.hid hoM
          rw [stepE_8, hen] at hoE
          have HOE := Lib.hid hoE
          clear hoM hoE HRx4 HOK hen hcell
          go_wp2_with (first
            | (at_builtin; refine wpList_append_own _ rfl (.tmp 79) (.tmp 81) 33 rfl (F + 1) 28 e0 (.int .i64 0) 1 8 Tryd.underlying33 eh0 ez0 ez1 ez2 rfl (by decide) _ _ _ rfl HBad.out ⟨g, 0, none⟩ 1 c2 ([x].map (Value.int .i64)) rfl (by simp) HCE.out (nums_oneCell _ _) (by unfold maxLen; omega) (by omega) (by omega) ?_; intro v2 w2 hown2 hgrow _; (have hb2 : Below (F + 1) x4 w2 := Below.grown (Below.refl (F + 1) x4) hgrow (by omega) (fun k hk => (HBad.out.lt k hk).1)); (have HD2 := Lib.hid (show MB w2 w.heap.size M.zero from by unfold MB; rw [hb2.block w.heap.size (by omega)]; exact HX4.out.res)); (have HB2 := Lib.hid (show Below w.heap.size w w2 from HX4.out.below.trans (hb2.mono (by omega)))); (have HO2 := Lib.hid (show w2.ownsRow (F + 1) 28 1 v2 (30 :: ([x])).length ((30 :: ([x])).map (Value.int .i64)) from hown2)); clear hown2 hgrow hb2)
            | (with_reducible show wpList _ _ _ (Oper.mk none (Op.store 23 (.tmp 2) _) _ _ _ _ :: _) _ _; refine wpList_store_msg rfl (.tmp 2) (.tmp 78) rfl w.heap.size M.zero M.zero rfl rfl HD2.out _ _ HB2.out (Nat.le_refl _) ?_; intro wF hMF hBF hkF hzF; (have HBF := Lib.hid hBF); (have HEF := Lib.hid (endRow HO2.out hkF (by omega))); (obtain ⟨k0, k1, k2, k3, k4, k5, k6, k7⟩ := hMF.mat.all); clear hMF hBF hkF hzF)
            | fail)
          obtain ⟨A2, c2, hv2, hr2⟩ := HEF.out
          refine bodyPost_ret (v := .tuple #[M.zero.val, v2]) (by simp [results, Tryd.results13, go_sem, k0, k1, k2, k3, k4, k5, k6, k7]) rfl ?_
          rw [HOM.out, HOE.out]
          exact ⟨A2, _, c2, by rw [hv2], hr2, HBF.out⟩
      · have hrf := HRx1.out
        rw [he] at hrf
        obtain ⟨g, rfl, rfl, hcell⟩ := hrf.cells
        have HCE := Lib.hid hcell
        have cF := cells_at HX1.out.flt 0
        simp at cF
        have hx2 : (x == 0) = false := by simpa using hx
        have hx3 : (x != 0) = true := by simpa using hx
        rw [he]
        clear hrf
        have HBad := Lib.hid HX1.out.bad
        have hszX := HX1.out.sz
        obtain ⟨hoM, hoE⟩ := out_bad (t := t) (k := 7) (by omega) (by rw [stepE_7, he]; simp) (fun j hj => by rw [stepE_num (by omega)]; exact HOK.out j hj)
        have HOM := Lib.hid hoM
        rw [stepE_7, he] at hoE
        have HOE := Lib.hid hoE
        clear hoM hoE HGx1 HRx1 HOK he hcell
        go_wp2_with (first
          | (at_builtin; refine wpList_append_own _ rfl (.tmp 69) (.tmp 71) 33 rfl (F + 1) 28 e0 (.int .i64 0) 1 8 Tryd.underlying33 eh0 ez0 ez1 ez2 rfl (by decide) _ _ _ rfl HBad.out ⟨g, 0, none⟩ (xs.length + 1) c ((x :: xs).map (Value.int .i64)) rfl (by simp) HCE.out (nums_oneCell _ _) (by unfold maxLen; omega) (by omega) (by omega) ?_; intro v2 w2 hown2 hgrow _; (have hb2 : Below (F + 1) x1 w2 := Below.grown (Below.refl (F + 1) x1) hgrow (by omega) (fun k hk => (HBad.out.lt k hk).1)); (have HD2 := Lib.hid (show MB w2 w.heap.size M.zero from by unfold MB; rw [hb2.block w.heap.size (by omega)]; exact HX1.out.res)); (have HB2 := Lib.hid (show Below w.heap.size w w2 from HX1.out.below.trans (hb2.mono (by omega)))); (have HO2 := Lib.hid (show w2.ownsRow (F + 1) 28 1 v2 (30 :: (x :: xs)).length ((30 :: (x :: xs)).map (Value.int .i64)) from by have h := hown2; rw [show 1 + (xs.length + 1) = (30 :: (x :: xs)).length from by simp; omega] at h; exact h)); clear hown2 hgrow hb2)
          | (with_reducible show wpList _ _ _ (Oper.mk none (Op.store 23 (.tmp 2) _) _ _ _ _ :: _) _ _; refine wpList_store_msg rfl (.tmp 2) (.tmp 68) rfl w.heap.size M.zero M.zero rfl rfl HD2.out _ _ HB2.out (Nat.le_refl _) ?_; intro wF hMF hBF hkF hzF; (have HBF := Lib.hid hBF); (have HEF := Lib.hid (endRow HO2.out hkF (by omega))); (obtain ⟨k0, k1, k2, k3, k4, k5, k6, k7⟩ := hMF.mat.all); clear hMF hBF hkF hzF)
          | fail)
        obtain ⟨A2, c2, hv2, hr2⟩ := HEF.out
        refine bodyPost_ret (v := .tuple #[M.zero.val, v2]) (by simp [results, Tryd.results13, go_sem, k0, k1, k2, k3, k4, k5, k6, k7]) rfl ?_
        rw [HOM.out, HOE.out]
        exact ⟨A2, _, c2, by rw [hv2], hr2, HBF.out⟩
end Go.Proofs.YtjgicapjbibioaaDoor
