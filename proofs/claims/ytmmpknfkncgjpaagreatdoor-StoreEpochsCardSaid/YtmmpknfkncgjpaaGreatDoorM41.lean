/-
  A server as plain data: its epoch, clients' times, known writes; what Handle tells and leaves.

  Maps by number, of elements that are told by a function: what a lookup tells, what a store leaves.

  A block that is an argument, opened to its cells; numbers that came in (two listed variables).
-/
import Derived.Test.YtmmpknfkncgjpaaGreatDoorM39
import Derived.Test.YtmmpknfkncgjpaaGreatDoorM18
import Derived.Test.YtmmpknfkncgjpaaGreatDoorM23
import Derived.Test.YtmmpknfkncgjpaaGreatDoorM26
import Derived.Deep.Slices
import Derived.Deep.Fields
import Derived.Carry
import Derived.ProofKit
import Derived.Lib.SmallJoins
namespace Go.Proofs.YtmmpknfkncgjpaaGreatDoor
open Go.RowKit

/-- A known write: whose, its Seq, its status. -/
structure Kn where
  c : Int
  q : Int
  e : Int
structure Sv where
  ep : Int
  tm : List Int
  kn : List Kn
def Sv.new : Sv := ⟨0, List.replicate 8 (-1), []⟩
def look (l : List Kn) (c : Int) : Option Kn := l.find? fun k => k.c == c
def learn (l : List Kn) (k : Kn) : List Kn := (l.filter fun x => x.c != k.c) ++ [k]
theorem look_learn_same (l : List Kn) (k : Kn) : look (learn l k) k.c = some k := by
  unfold look learn
  rw [List.find?_append]
  have : (l.filter fun x => x.c != k.c).find? (fun x => x.c == k.c) = none := by
    rw [List.find?_eq_none]
    intro x hx
    have := (List.mem_filter.1 hx).2
    simpa using this
  rw [this]
  simp
theorem look_learn_other (l : List Kn) (k : Kn) {c : Int} (h : c ≠ k.c) : look (learn l k) c = look l c := by
  unfold look learn
  rw [List.find?_append]
  have h1 : [k].find? (fun x => x.c == c) = none := by simp [Ne.symm h]
  rw [h1, Option.or_none]
  induction l with
  | nil => rfl
  | cons x l ih =>
    by_cases hx : x.c = k.c
    · have e1 : (x.c != k.c) = false := by simpa using hx
      have e2 : (x.c == c) = false := by simpa [hx] using Ne.symm h
      rw [List.filter_cons, e1, List.find?_cons, e2]
      exact ih
    · have e1 : (x.c != k.c) = true := by simpa using hx
      rw [List.filter_cons, e1]
      show (x :: _).find? _ = _
      rw [List.find?_cons, List.find?_cons]
      split
      · rfl
      · exact ih
theorem look_some {l : List Kn} {c : Int} {k : Kn} (h : look l c = some k) : k.c = c ∧ k ∈ l := by
  unfold look at h
  exact ⟨by simpa using List.find?_some h, List.mem_of_find?_eq_some h⟩
/-- A WRITE that is done: its status, the plate, the blocks. -/
noncomputable def wDo (L : Lay) (s : St) (b : Bk) : Int × St × Lay := if getL L b.id = some b then (0, s, L) else (putE L s b, putS L s b, putY L s b)
/-- What a WRITE comes to: its status, the plate, the blocks, what is known. -/
noncomputable def wrtO (L : Lay) (s : St) (v : Sv) (m : M) (now : Int) : Int × St × Lay × List Kn :=
  if m.epoch ≠ v.ep then (120, s, L, v.kn)
  else if (parO m.data).2 ≠ 0 then ((parO m.data).2, s, L, v.kn)
  else if v.tm.getD m.src.toNat (-1) < 0 ∨ now > v.tm.getD m.src.toNat (-1) then (140, s, L, v.kn)
  else match look v.kn m.src with
    | some k => if k.q > m.seq then (5, s, L, v.kn) else if k.q = m.seq then (k.e, s, L, v.kn)
      else ((wDo L s ⟨m.off, (parO m.data).1.1, (parO m.data).1.2⟩).1, (wDo L s ⟨m.off, (parO m.data).1.1, (parO m.data).1.2⟩).2.1, (wDo L s ⟨m.off, (parO m.data).1.1, (parO m.data).1.2⟩).2.2, learn v.kn ⟨m.src, m.seq, (wDo L s ⟨m.off, (parO m.data).1.1, (parO m.data).1.2⟩).1⟩)
    | none => ((wDo L s ⟨m.off, (parO m.data).1.1, (parO m.data).1.2⟩).1, (wDo L s ⟨m.off, (parO m.data).1.1, (parO m.data).1.2⟩).2.1, (wDo L s ⟨m.off, (parO m.data).1.1, (parO m.data).1.2⟩).2.2, learn v.kn ⟨m.src, m.seq, (wDo L s ⟨m.off, (parO m.data).1.1, (parO m.data).1.2⟩).1⟩)
/-- What a READ tells. -/
def rdO (L : Lay) (v : Sv) (m : M) : Int × ByteArray :=
  if m.epoch ≠ v.ep then (120, ⟨#[]⟩) else match getL L m.off with
  | none => (3, ⟨#[]⟩)
  | some b => (0, valB b.ver b.data)
/-- What a TIME comes to. -/
def tmO (v : Sv) (m : M) : Int × List Int :=
  if (parO m.data).2 ≠ 0 then ((parO m.data).2, v.tm) else if m.off ≥ 8 then (1, v.tm) else (0, v.tm.set m.off.toNat (parO m.data).1.1)
/-- What an EPOCH comes to. -/
def epO (v : Sv) (m : M) : Int × Int := if m.epoch < v.ep then (5, v.ep) else (0, m.epoch)
/-- A call that has an answer, if the power stays. -/
def heard (id : Int) (s : St) (m : M) : Prop := s.gone = false ∧ m.chk = 0 ∧ m.dst = id ∧ 1 ≤ m.kind ∧ m.kind ≤ 4
/-- Its status, its data, the plate, the blocks, the server behind it. -/
noncomputable def hO (L : Lay) (s : St) (v : Sv) (m : M) (now : Int) : Int × ByteArray × St × Lay × Sv :=
  if m.kind = 1 then ((rdO L v m).1, (rdO L v m).2, s, L, v)
  else if m.kind = 2 then ((wrtO L s v m now).1, ⟨#[]⟩, (wrtO L s v m now).2.1, (wrtO L s v m now).2.2.1, { v with kn := (wrtO L s v m now).2.2.2 })
  else if m.kind = 3 then ((tmO v m).1, ⟨#[]⟩, s, L, { v with tm := (tmO v m).2 })
  else ((epO v m).1, ⟨#[]⟩, s, L, { v with ep := (epO v m).2 })
theorem wrtO_do {L : Lay} {s : St} {v : Sv} {m : M} {now : Int} (h1 : m.epoch = v.ep) (h2 : (parO m.data).2 = 0) (h3 : ¬ (v.tm.getD m.src.toNat (-1) < 0 ∨ now > v.tm.getD m.src.toNat (-1))) (h4 : ∀ k, look v.kn m.src = some k → ¬ k.q > m.seq ∧ ¬ k.q = m.seq) :
    wrtO L s v m now = ((wDo L s ⟨m.off, (parO m.data).1.1, (parO m.data).1.2⟩).1, (wDo L s ⟨m.off, (parO m.data).1.1, (parO m.data).1.2⟩).2.1, (wDo L s ⟨m.off, (parO m.data).1.1, (parO m.data).1.2⟩).2.2, learn v.kn ⟨m.src, m.seq, (wDo L s ⟨m.off, (parO m.data).1.1, (parO m.data).1.2⟩).1⟩) := by
  unfold wrtO
  rw [if_neg (by omega), if_neg (by omega), if_neg h3]
  cases hl : look v.kn m.src with
  | none => rfl
  | some k =>
    obtain ⟨a, b⟩ := h4 k hl
    show (if _ then _ else _) = _
    rw [if_neg a, if_neg b]
theorem wrtO_known {L : Lay} {s : St} {v : Sv} {m : M} {now : Int} (h1 : m.epoch = v.ep) (h2 : (parO m.data).2 = 0) (h3 : ¬ (v.tm.getD m.src.toNat (-1) < 0 ∨ now > v.tm.getD m.src.toNat (-1))) {k : Kn} (h4 : look v.kn m.src = some k) (h5 : k.q = m.seq) :
    wrtO L s v m now = (k.e, s, L, v.kn) := by
  unfold wrtO
  rw [if_neg (by omega), if_neg (by omega), if_neg h3, h4]
  show (if _ then _ else _) = _
  rw [if_neg (by omega), if_pos h5]
/-- A WRITE that comes again: as it was answered, and nothing turns. -/
theorem wrt_twice (L : Lay) (s : St) (v : Sv) (m : M) (now : Int) :
    wrtO (wrtO L s v m now).2.2.1 (wrtO L s v m now).2.1 { v with kn := (wrtO L s v m now).2.2.2 } m now = wrtO L s v m now := by
  by_cases h1 : m.epoch = v.ep
  case neg =>
    have e : wrtO L s v m now = (120, s, L, v.kn) := by unfold wrtO; rw [if_pos h1]
    rw [e]; exact e
  by_cases h2 : (parO m.data).2 = 0
  case neg =>
    have e : wrtO L s v m now = ((parO m.data).2, s, L, v.kn) := by unfold wrtO; rw [if_neg (by omega), if_pos h2]
    rw [e]; exact e
  by_cases h3 : v.tm.getD m.src.toNat (-1) < 0 ∨ now > v.tm.getD m.src.toNat (-1)
  case pos =>
    have e : wrtO L s v m now = (140, s, L, v.kn) := by unfold wrtO; rw [if_neg (by omega), if_neg (by omega), if_pos h3]
    rw [e]; exact e
  by_cases h4 : ∀ k, look v.kn m.src = some k → ¬ k.q > m.seq ∧ ¬ k.q = m.seq
  · have e := wrtO_do (L := L) (s := s) h1 h2 h3 h4
    rw [e]
    exact wrtO_known (v := { v with kn := learn v.kn ⟨m.src, m.seq, _⟩ }) h1 h2 h3 (look_learn_same _ _) rfl
  · obtain ⟨k, hk, hq⟩ : ∃ k, look v.kn m.src = some k ∧ (k.q > m.seq ∨ k.q = m.seq) := by
      refine Classical.byContradiction fun hn => h4 fun k hk => ⟨fun h => hn ⟨k, hk, .inl h⟩, fun h => hn ⟨k, hk, .inr h⟩⟩
    by_cases hg : k.q > m.seq
    · have e : wrtO L s v m now = (5, s, L, v.kn) := by
        unfold wrtO
        rw [if_neg (by omega), if_neg (by omega), if_neg h3, hk]
        show (if _ then _ else _) = _
        rw [if_pos hg]
      rw [e]; exact e
    · have e := wrtO_known (L := L) (s := s) h1 h2 h3 hk (by omega)
      rw [e]; exact e
end Go.Proofs.YtmmpknfkncgjpaaGreatDoor

namespace Go.Proofs.YtmmpknfkncgjpaaGreatDoor
open Go.RowKit Go.WideShapes
open Go.Maps (Keyed)

/-- How elements stand and read. -/
structure El (α : Type) where
  val : α → Value
  dat : α → DataW Unit
  rd : Value → Option (DataW Unit × List MemPlace)
  mkv : ∀ x, rd (val x) = some (dat x, [])
  inv : ∀ {v z}, rd v = some z → ∃ x, v = val x ∧ z = (dat x, [])
  inj : ∀ {x y}, dat x = dat y → x = y
  zero : α
  mt : TypeId
  et : TypeId
  und : Tryz.prog.underlying mt = some (.map 3 et)
  zer : ∀ w, (zeroValue et).run Tryz.prog w = .ok (val zero) w
structure IsM {α : Type} (E : El α) (D : DataW Unit) (g : Int → Option α) : Prop where
  has : ∀ n, i64 n → Maps.has D (kl n) = (g n).isSome
  at_ : ∀ n x, i64 n → g n = some x → ∀ z, D.atKey (kl n) z = E.dat x
/-- Block mb is a map of what g tells; it has not more than N entries. -/
def Mp {α : Type} (E : El α) (w : World) (mb : Nat) (g : Int → Option α) (N : Nat) : Prop := ∃ D, w.ownsMap Tryz.prog 3 E.rd mb N D ∧ IsM E D g
section
variable {α : Type} {E : El α} {w w' : World} {mb N : Nat} {g : Int → Option α}
theorem Mp.lt (h : Mp E w mb g N) : mb < w.heap.size := by obtain ⟨D, h, _⟩ := h; exact h.lt
theorem Mp.of_block (h : Mp E w mb g N) (hb : w'.heap[mb]? = w.heap[mb]?) : Mp E w' mb g N := by
  obtain ⟨D, ⟨es, clock, h1, r⟩, k⟩ := h
  exact ⟨D, ⟨es, clock, hb.trans h1, r⟩, k⟩
theorem Mp.below (h : Mp E w mb g N) (hb : Below w.heap.size w w') : Mp E w' mb g N := h.of_block (hb.block mb h.lt)
theorem Mp.mono (h : Mp E w mb g N) {N' : Nat} (hN : N ≤ N') : Mp E w mb g N' := by
  obtain ⟨D, ⟨es, clock, h1, F, hs, r⟩, k⟩ := h
  exact ⟨D, ⟨es, clock, h1, F, Nat.le_trans hs hN, r⟩, k⟩
theorem Mp.made (E : El α) (w : World) : Mp E (w.alloc (.map #[] 0)) w.heap.size (fun _ => none) 0 :=
  ⟨.map [], World.ownsMap_made w _ _ _, fun _ _ => rfl, fun _ _ _ h => by cases h⟩
theorem Mp.ne_cells {b o : Nat} {v : Value} (h : Mp E w mb g N) (hc : w.cell? ⟨b, o, none⟩ = some v) : mb ≠ b := by
  rintro rfl
  obtain ⟨D, ⟨es, clock, hb, _⟩, _⟩ := h
  simp [World.cell?, hb] at hc
/-- 'v, ok := m[k]'. -/
theorem Mp.look (h : Mp E w mb g N) {n : Int} (hn : i64 n) :
    (Instr.lookup E.mt (.map (some mb)) (.int .i64 n) true).run Tryz.prog w = .ok (.tuple #[E.val ((g n).getD E.zero), .bool (g n).isSome]) w := by
  obtain ⟨D, h, hI⟩ := h
  obtain ⟨v, ps, hrun, hv⟩ := h.look_ok keyK E.und (E.zer w) (E.mkv E.zero) (key_mk hn)
  rw [hrun, hI.has n hn]
  obtain ⟨y, rfl, hy⟩ := E.inv hv
  have hy1 : D.atKey (kl n) (E.dat E.zero) = E.dat y := congrArg Prod.fst hy
  cases hg : g n with
  | none =>
    rw [Maps.atKey_of_not_has (by rw [hI.has n hn, hg]; rfl)] at hy1
    rw [← E.inj hy1]; rfl
  | some b =>
    rw [hI.at_ n b hn hg] at hy1
    rw [← E.inj hy1]; rfl
/-- 'm[k] = v'. -/
theorem Mp.put (h : Mp E w mb g N) {n : Int} (hn : i64 n) (hN : N < 1000000) (x : α) :
    ∃ w', (Instr.mapUpdate E.mt (.map (some mb)) (.int .i64 n) (E.val x)).run Tryz.prog w = .ok () w' ∧ Mp E w' mb (fun m => if m = n then some x else g m) (N + 1) ∧ w.mapTurned w' mb := by
  obtain ⟨D, h, hI⟩ := h
  obtain ⟨w', hrun, h', ht⟩ := h.store keyK E.und (by unfold maxLen; omega) (key_mk hn) (E.mkv x)
  have hT := h.tidy keyK
  refine ⟨w', hrun, ⟨_, h', fun m hm => ?_, fun m y hm hy z => ?_⟩, ht⟩
  · by_cases e : m = n
    · subst e; rw [Maps.has_put_same hT.isMap (kl_key hm), if_pos rfl]; rfl
    · rw [Maps.has_put_other (fun h' => e (kl_inj h')), hI.has m hm, if_neg e]
  · by_cases e : m = n
    · subst e
      rw [if_pos rfl] at hy
      cases hy
      exact Maps.atKey_put_same hT.isMap (kl_key hm) _ _
    · rw [if_neg e] at hy
      rw [Maps.atKey_put_other (fun h' => e (kl_inj h'))]
      exact hI.at_ m y hm hy z
end

/-! ### times -/
def rdI : Value → Option (DataW Unit × List MemPlace)
  | .int .i64 a => some (.lit (.int .i64 a), [])
  | _ => none
theorem zeroI (w : World) : (zeroValue 3).run Tryz.prog w = .ok (.int .i64 0) w := by kernel_rfl
def elI : El Int where
  val x := .int .i64 x
  dat x := .lit (.int .i64 x)
  rd := rdI
  mkv _ := rfl
  inv {v z} h := by
    unfold rdI at h
    split at h
    · cases h; exact ⟨_, rfl, rfl⟩
    · cases h
  inj h := by simpa using h
  zero := 0
  mt := 39
  et := 3
  und := Tryz.underlying39
  zer := zeroI

/-! ### writes -/
def rdW : Value → Option (DataW Unit × List MemPlace)
  | .agg cs => match cs.toList with
    | [.int .i64 a, .int .i64 b] => some (.agg [.lit (.int .i64 a), .lit (.int .i64 b)], [])
    | _ => none
  | _ => none
theorem zeroW (w : World) : (zeroValue 195).run Tryz.prog w = .ok (.agg #[.int .i64 0, .int .i64 0]) w := by kernel_rfl
def elW : El (Int × Int) where
  val x := .agg #[.int .i64 x.1, .int .i64 x.2]
  dat x := .agg [.lit (.int .i64 x.1), .lit (.int .i64 x.2)]
  rd := rdW
  mkv _ := rfl
  inv {v z} h := by
    unfold rdW at h
    split at h
    · rename_i cs
      split at h
      · rename_i a b hc
        cases h
        exact ⟨(a, b), by congr 1; exact Array.toList_inj.1 hc, rfl⟩
      · cases h
    · cases h
  inj {x y} h := by
    obtain ⟨a, b⟩ := x
    obtain ⟨c, d⟩ := y
    simp at h
    obtain ⟨rfl, rfl⟩ := h
    rfl
  zero := (0, 0)
  mt := 40
  et := 195
  und := Tryz.underlying40
  zer := zeroW
end Go.Proofs.YtmmpknfkncgjpaaGreatDoor

namespace Go.Proofs.YtmmpknfkncgjpaaGreatDoor
open Go.ChangeShapes Go.WideShapes Go.RowKit Go.Deep

theorem laidOutK : laidOutB Tryz.prog = true := by kernel_rfl
theorem wf_u64 {x : Int} (h : (Lit.int .u64 x).wf = true) : ∃ n : Nat, x = (n : Int) ∧ n < 18446744073709551616 := by
  simp only [Lit.wf, Bool.and_eq_true, decide_eq_true_eq] at h
  have e1 : IntKind.u64.min = 0 := by decide
  have e2 : IntKind.u64.max = 18446744073709551615 := by decide
  rw [e1, e2] at h
  exact ⟨x.toNat, by omega, by omega⟩
theorem wf_u8 {x : Int} (h : (Lit.int .u8 x).wf = true) : ∃ n : Nat, x = (n : Int) ∧ n < 256 := by
  simp only [Lit.wf, Bool.and_eq_true, decide_eq_true_eq] at h
  have e1 : IntKind.u8.min = 0 := by decide
  have e2 : IntKind.u8.max = 255 := by decide
  rw [e1, e2] at h
  exact ⟨x.toNat, by omega, by omega⟩
theorem wf_i64 {x : Int} (h : (Lit.int .i64 x).wf = true) : x < 9223372036854775808 := by
  simp only [Lit.wf, Bool.and_eq_true, decide_eq_true_eq] at h
  have e2 : IntKind.i64.max = 9223372036854775807 := by decide
  rw [e2] at h
  omega

set_option maxRecDepth 100000 in
/-- A block's cells, as a reading finds them. -/
theorem bk_cells {H : Type} {enc : TypeId × Value → H} {w : World} {base n : Nat} {spare : Nat → Bool} {held : Bool} {cs : List Value} {x : DataW H × List MemPlace} (h : DataW.trod enc Tryz.prog w base spare held n 34 cs = some x) :
    ∃ b : Bk, cs = b.cells.toList ∧ i64 b.id ∧ b.data.size ≤ 9223372036854775807 := by
  obtain ⟨ys, n', _, _, hlen, hyl, hf⟩ := DataW.trod_struct Tryz.underlying34 h
  have hlen : cs.length = 3 := hlen.trans (by kernel_rfl)
  match cs, hlen with
  | [c0, c1, c2], _ =>
    have hy : ∀ j, j < 3 → ∃ y, ys[j]? = some y := fun j hj => ⟨_, List.getElem?_eq_getElem (by rw [hyl]; exact hj)⟩
    obtain ⟨y0, g0⟩ := hy 0 (by omega)
    obtain ⟨y1, g1⟩ := hy 1 (by omega)
    obtain ⟨y2, g2⟩ := hy 2 (by omega)
    have t0 : DataW.trod enc Tryz.prog w base spare held n' 3 (([c0, c1, c2].drop 0).take (Tryz.prog.cellsOf 3)) = some y0 := (hf 0 _ rfl).trans g0
    have t1 : DataW.trod enc Tryz.prog w base spare held n' 3 (([c0, c1, c2].drop 1).take (Tryz.prog.cellsOf 3)) = some y1 := (hf 1 _ rfl).trans g1
    have t2 : DataW.trod enc Tryz.prog w base spare held n' 9 (([c0, c1, c2].drop 2).take (Tryz.prog.cellsOf 9)) = some y2 := (hf 2 _ rfl).trans g2
    have z : Tryz.prog.cellsOf 3 = 1 := by kernel_rfl
    have zs : Tryz.prog.cellsOf 9 = 1 := by kernel_rfl
    simp only [z, zs, List.drop_succ_cons, List.drop_zero, List.take_succ_cons, List.take_zero] at t0 t1 t2
    obtain ⟨q0, e0, -, w0⟩ := DataW.trod_int Tryz.underlying3 t0
    obtain ⟨q1, e1, -, -⟩ := DataW.trod_int Tryz.underlying3 t1
    obtain ⟨q2, e2, -, w2⟩ := DataW.trod_string Tryz.underlying9 t2
    simp only [List.cons.injEq, and_true] at e0 e1 e2
    subst e0 e1 e2
    exact ⟨⟨q0, q1, q2⟩, rfl, w0, by unfold maxLen at w2; show q2.size ≤ _; omega⟩
set_option maxRecDepth 100000 in
/-- A block that an argument is. -/
theorem open_bk {H : Type} {enc : TypeId × Value → H} {W : World} {base b0 : Nat} {spare : Nat → Bool} {held : Bool} {r : Reach} {v : Value} {d : DataW H} {p : List MemPlace} (hv : Value.okWide Tryz.prog W r b0 34 v) (h : DataW.Trod enc Tryz.prog W base spare held 34 v d p) : ∃ q : Bk, v = q.val ∧ i64 q.id ∧ q.data.size ≤ 9223372036854775807 := by
  obtain ⟨cs, rfl, -⟩ := okWide_struct Tryz.underlying34 hv
  obtain ⟨fuel, hf⟩ := h
  obtain ⟨m, hm, h1, h2⟩ := bk_cells (by simpa [Value.cells] using hf)
  exact ⟨m, by rw [show cs = m.cells from Array.toList_inj.1 hm], h1, h2⟩
end Go.Proofs.YtmmpknfkncgjpaaGreatDoor
