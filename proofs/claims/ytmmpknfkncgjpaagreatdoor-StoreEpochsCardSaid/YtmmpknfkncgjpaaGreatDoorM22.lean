/-
  errors.Join by a contract (Go's own text is walked): what it joins, in a row of its own; within, unless.

  errors.Is at joined errors, by a contract (Go's own text is walked): it finds each number that was joined; find.
-/
import Derived.Test.YtmmpknfkncgjpaaGreatDoorM21
import Derived.Test.YtmmpknfkncgjpaaGreatDoorM01
import Derived.Stop.Asserts
import Derived.Lib.IfaceEq
namespace Go.Proofs.YtmmpknfkncgjpaaGreatDoor
open Go.RowKit Go.Extern.Stop Go.Stop Go.Extern

@[reducible] def errV (x : Int) : Value := .iface 57 (.int .i64 x)
@[reducible] def joinV (b : Nat) : Value := .iface 227 (.pointer (some ⟨b, 0, none⟩))
/-- An error value, as this program has them. -/
def EV (v : Value) : Prop := v = .nilIface ∨ (∃ x, v = errV x) ∨ ∃ b, v = joinV b
def notN : Value → Bool
  | .nilIface => false
  | _ => true
def kept (vs : List Value) : List Value := vs.filter notN
theorem kept_append (a b : List Value) : kept (a ++ b) = kept a ++ kept b := by unfold kept; rw [List.filter_append]
theorem kept_nil_one : kept [.nilIface] = [] := rfl
theorem kept_err (x : Int) : kept [errV x] = [errV x] := rfl
theorem kept_join (b : Nat) : kept [joinV b] = [joinV b] := rfl
theorem kept_len (vs : List Value) : (kept vs).length ≤ vs.length := List.length_filter_le _ _
theorem ev_one {vs : List Value} (h : ∀ v ∈ vs, EV v) : ∀ u ∈ kept vs, u.oneCell' = true := fun u hu => by
  rcases h u (List.mem_filter.1 hu).1 with rfl | ⟨x, rfl⟩ | ⟨b, rfl⟩ <;> rfl

/-- Joined errors us in block b. -/
def Jn (w : World) (b : Nat) (us : List Value) : Prop :=
  ∃ sv, w.cell? ⟨b, 0, none⟩ = some sv ∧ w.frozen? ⟨b, 0, none⟩ = false ∧ w.ownsRow 0 93 1 sv us.length us ∧ sv.ownBlock ≠ some b
theorem Jn.lt {w : World} {b : Nat} {us : List Value} (h : Jn w b us) : b < w.heap.size := by obtain ⟨sv, h1, -⟩ := h; exact cell_lt h1
theorem Jn.below {w w' : World} {b : Nat} {us : List Value} (h : Jn w b us) (hb : Below w.heap.size w w') : Jn w' b us := by
  have hl := h.lt
  obtain ⟨sv, h1, h2, h3, h4⟩ := h
  exact ⟨sv, by rw [hb.cell (p := ⟨b, 0, none⟩) hl]; exact h1, by rw [World.frozen?_of_block (w := w) (a := ⟨b, 0, none⟩) (hb.block b hl)]; exact h2, ownsRow_below hb h3, h4⟩

theorem within_any (x a b : Int) (w : World) :
    Calls Tryz.prog 152 #[.int .i64 x, .int .i64 a, .int .i64 b] w fun e w' => e = .returned (.bool (decide (a ≤ x ∧ x ≤ b))) ∧ w = w' := by
  by_cases h0 : a ≤ x
  · by_cases h1 : x ≤ b
    · have e : decide (a ≤ x ∧ x ≤ b) = true := by simp; omega
      rw [e]
      go_enter Tryz.func152, Tryz.ntmps152
      go_wp2
      go_ret
      exact ⟨rfl, rfl⟩
    · have e : decide (a ≤ x ∧ x ≤ b) = false := by simp; omega
      rw [e]
      go_enter Tryz.func152, Tryz.ntmps152
      go_wp2
      go_ret
      exact ⟨rfl, rfl⟩
  · have e : decide (a ≤ x ∧ x ≤ b) = false := by simp; omega
    rw [e]
    go_enter Tryz.func152, Tryz.ntmps152
    go_wp2
    go_ret
    exact ⟨rfl, rfl⟩
/-- What unless answers. -/
def unl (p : Bool) (x : Int) : Value := match p with
  | true => .nilIface
  | false => errV x
theorem unl_ev (p : Bool) (x : Int) : EV (unl p x) := by cases p; (exact .inr (.inl ⟨x, rfl⟩)); (exact .inl rfl)
theorem unless_any (p : Bool) (x : Int) (w : World) :
    Calls Tryz.prog 131 #[.bool p, .int .i64 x] w fun e w' => e = .returned (unl p x) ∧ w = w' := by
  cases p
  all_goals
    go_enter Tryz.func131, Tryz.ntmps131
    go_wp2
    go_ret
    exact ⟨rfl, rfl⟩

theorem infoErr : (Tryz.prog.info? 93).map (fun i => (i.zero, i.size, i.bytes)) = some (some .nilIface, 1, 16) := by kernel_rfl
theorem take_one {vs : List Value} {i : Nat} {v : Value} (h : vs[i]? = some v) : vs.take (i + 1) = vs.take i ++ [v] := by
  rw [List.take_add_one, h]; rfl

/-- The arguments, in memory. -/
def Args (w : World) (g n : Nat) (vs : List Value) : Prop := vs.length = n ∧ n ≤ 100 ∧ (∀ v ∈ vs, EV v) ∧ ∀ j v, vs[j]? = some v → w.cell? ⟨g, j, none⟩ = some v
theorem Args.below {w w' : World} {g n : Nat} {vs : List Value} (h : Args w g n vs) (hb : Below w.heap.size w w') : Args w' g n vs :=
  ⟨h.1, h.2.1, h.2.2.1, fun j v hv => by rw [hb.cell (p := ⟨g, j, none⟩) (cell_lt (h.2.2.2 j v hv))]; exact h.2.2.2 j v hv⟩

/-- The same, while it is made: its row is from the block N on. -/
def Jb (N : Nat) (w : World) (b : Nat) (us : List Value) : Prop :=
  ∃ sv, w.cell? ⟨b, 0, none⟩ = some sv ∧ w.frozen? ⟨b, 0, none⟩ = false ∧ w.ownsRow N 93 1 sv us.length us ∧ sv.ownBlock ≠ some b
theorem Jb.jn {N : Nat} {w : World} {b : Nat} {us : List Value} (h : Jb N w b us) : Jn w b us := by
  obtain ⟨sv, h1, h2, h3, h4⟩ := h
  refine ⟨sv, h1, h2, ⟨h3.1, ?_⟩, h4⟩
  rcases h3.2 with h | ⟨g, cap, cur, e, _, r⟩
  · exact .inl h
  · exact .inr ⟨g, cap, cur, e, Nat.zero_le _, r⟩
theorem below_grown {B : Nat} {w0 w w' : World} {row : Option Nat} (h : Below B w0 w) (hg : w.grownBy w' row) (hB : B ≤ w.heap.size) (hr : ∀ k, row = some k → B ≤ k) : Below B w0 w' :=
  ⟨hg.os.trans h.os, hg.tape.trans h.tape, hg.output.trans h.output, Nat.le_trans h.size hg.size, fun k hk => (hg.block k (by omega) (fun e => by have := hr k e.symm; omega)).trans (h.block k hk)⟩
theorem jb_stored {N b : Nat} {w3 : World} {sv v : Value} {us : List Value} {g cap : Nat} (hc : w3.cell? ⟨b, 0, none⟩ = some sv) (hf : w3.frozen? ⟨b, 0, none⟩ = false) (hown : w3.ownsRow N 93 1 (.slice (some ⟨g, 0, none⟩) (us.length + 1) cap) (us.length + 1) (us ++ [v])) (hg : g ≠ b) :
    Jb N (w3.setCell ⟨b, 0, none⟩ (.slice (some ⟨g, 0, none⟩) (us.length + 1) cap)) b (us ++ [v]) := by
  refine ⟨_, World.cell?_setCell_same _ _ _ hc, by rw [World.frozen?_setCell]; exact hf, ?_, by simp [Value.ownBlock]; exact hg⟩
  rw [List.length_append]
  exact owns_kept hown fun q hq => by
    simp only [Value.ownBlock, Option.some.injEq] at hq
    subst hq
    exact Below.heap_setCell _ _ _ _ hg
set_option maxRecDepth 100000 in
set_option maxHeartbeats 2000000 in
theorem join_any (g n c : Nat) (vs : List Value) (w : World) (hA : Args w g n vs) :
    Calls Tryz.prog 129 #[.slice (some ⟨g, 0, none⟩) n c] w fun e w' => ((kept vs = [] ∧ e = .returned .nilIface) ∨ ∃ b, e = .returned (joinV b) ∧ Jn w' b (kept vs)) ∧ Below w.heap.size w w' := by
  obtain ⟨i0, hi0, hz0, hz1, hz2⟩ := info_parts infoErr
  have HA := Lib.hid hA
  obtain ⟨hlen, hn100, hEV, hcell⟩ := hA
  have HE := Lib.hid hEV
  have HC := Lib.hid hcell
  clear hEV hcell
  go_enter Tryz.func129, Tryz.ntmps129
  go_wp2
  go_loop [3, 11] (fun nv iv => ∃ i : Nat, i ≤ n ∧ iv = .int .i64 i ∧ nv = .int .i64 (kept (vs.take i)).length) (fun _ iv => n - (intOf iv).toNat)
  case atStart => exact ⟨0, Nat.zero_le _, rfl, by simp [kept]⟩
  case round =>
    obtain ⟨i, hi, rfl, rfl⟩ := hrel
    by_cases hlt : i < n
    · have hlI : (i : Int) < (n : Int) := by omega
      obtain ⟨v, hv⟩ : ∃ v, vs[i]? = some v := ⟨_, List.getElem?_eq_getElem (by omega)⟩
      have hc := HC.out i v hv
      have ht := take_one hv
      have hkl := kept_len (vs.take i)
      rw [List.length_take] at hkl
      rcases HE.out v (List.mem_of_getElem? hv) with rfl | ⟨x, rfl⟩ | ⟨b, rfl⟩
      · have hk : (kept (vs.take (i + 1))).length = (kept (vs.take i)).length := by rw [ht, kept_append, kept_nil_one, List.append_nil]
        go_wp2
        go_round
        case rel => exact ⟨i + 1, by omega, by go_num, by rw [hk]⟩
        case measure => simp [intOf]; omega
      · have hk : (kept (vs.take (i + 1))).length = (kept (vs.take i)).length + 1 := by rw [ht, kept_append, kept_err, List.length_append]; rfl
        go_wp2
        go_round
        case rel => exact ⟨i + 1, by omega, by go_num, by rw [hk]; go_num⟩
        case measure => simp [intOf]; omega
      · have hk : (kept (vs.take (i + 1))).length = (kept (vs.take i)).length + 1 := by rw [ht, kept_append, kept_join, List.length_append]; rfl
        go_wp2
        go_round
        case rel => exact ⟨i + 1, by omega, by go_num, by rw [hk]; go_num⟩
        case measure => simp [intOf]; omega
    · have hlI : ¬ ((i : Int) < (n : Int)) := by omega
      obtain rfl : i = n := by omega
      rw [show vs.take i = vs from List.take_of_length_le (by omega)]
      have hkl := kept_len vs
      by_cases h0 : kept vs = []
      · rw [h0]
        go_wp2
        go_ret
        exact ⟨.inl rfl, Below.refl _ _⟩
      · obtain ⟨m, hm⟩ : ∃ m, (kept vs).length = m := ⟨_, rfl⟩
        rw [hm]
        have hm0 : 0 < m := by rw [← hm]; exact List.length_pos_iff.2 h0
        have hmI : ((m : Int) == 0) = false := by simp; omega
        have hmp : (0 : Int) ≤ (m : Int) := by omega
        have hmk := run_make (P := Tryz.prog) w 226 93 i0 .nilIface Tryz.underlying226 hi0 hz0 .i64 .i64 0 (m : Int) (Int.le_refl _) hmp (by rw [hz2]; omega) (by omega)
        have hmade := World.ownsRow_made (base := w.heap.size) (e := 93) (size := i0.size) w (madeCells (Value.nilIface).cells (m * i0.size)) m (Nat.le_refl _) (by unfold maxLen; omega) (size_madeCells _ _)
        rw [hz1] at hmade hmk
        simp only [Int.toNat_zero, Int.toNat_natCast] at hmk
        have B1 : Below w.heap.size w (w.alloc (.cells (madeCells (Value.nilIface).cells (m * 1)) 93)) := (Below.refl _ _).alloc (Nat.le_refl _) _
        have Z1 : (w.alloc (.cells (madeCells (Value.nilIface).cells (m * 1)) 93)).heap.size = w.heap.size + 1 := by simp
        generalize w.alloc (.cells (madeCells (Value.nilIface).cells (m * 1)) 93) = w1 at hmk hmade B1 Z1
        go_wp2_with fail
        have J2 : Jb w.heap.size (w1.alloc (.cells #[.slice (some ⟨w.heap.size, 0, none⟩) 0 m] 229)) (w.heap.size + 1) [] := ⟨_, by rw [← Z1]; simp, by rw [← Z1]; simp, hmade.alloc _, by simp [Value.ownBlock]⟩
        have B2 := B1.alloc B1.size (.cells #[.slice (some ⟨w.heap.size, 0, none⟩) 0 m] 229)
        have Z2 : (w1.alloc (.cells #[.slice (some ⟨w.heap.size, 0, none⟩) 0 m] 229)).heap.size = w.heap.size + 2 := by simp [Z1]
        generalize w1.alloc (.cells #[.slice (some ⟨w.heap.size, 0, none⟩) 0 m] 229) = w2 at J2 B2 Z2 ⊢
        have J2' := Lib.hid J2
        have B2' := Lib.hid B2
        have hz : w.heap.size < w2.heap.size := by omega
        clear J2 B2 hmk hmade B1 Z1 h0
        go_loopw [28] (fun iv wr => ∃ k : Nat, k ≤ i ∧ iv = .int .i64 k ∧ Jb w.heap.size wr (w.heap.size + 1) (kept (vs.take k)) ∧ Below w.heap.size w wr) (fun iv _ => i - (intOf iv).toNat)
        case atStart => exact ⟨0, Nat.zero_le _, rfl, by simpa [kept] using J2'.out, B2'.out⟩
        case round =>
          obtain ⟨k, hk0, rfl, hJ, hB⟩ := hrel
          have Jr := Lib.hid hJ
          have Br := Lib.hid hB
          clear hJ hB
          by_cases hlt : k < i
          · have hlI : (k : Int) < (i : Int) := by omega
            have hkI : (0 : Int) ≤ (k : Int) := by omega
            obtain ⟨v, hv⟩ : ∃ v, vs[k]? = some v := ⟨_, List.getElem?_eq_getElem (by omega)⟩
            have hc := HC.out k v hv
            have hc := (Br.out.cell (p := ⟨g, k, none⟩) (cell_lt hc)).trans hc
            have ht := take_one hv
            have hkl := kept_len (vs.take k)
            rw [List.length_take] at hkl
            rcases HE.out v (List.mem_of_getElem? hv) with rfl | ⟨x, rfl⟩ | ⟨b, rfl⟩
            · have hk : kept (vs.take (k + 1)) = kept (vs.take k) := by rw [ht, kept_append, kept_nil_one, List.append_nil]
              clear ht hv
              go_wp2
              go_roundw
              case rel => exact ⟨k + 1, by omega, by go_num, by rw [hk]; exact Jr.out, Br.out⟩
              case measure => simp [intOf]; omega
            · have hk : kept (vs.take (k + 1)) = kept (vs.take k) ++ [errV x] := by rw [ht, kept_append, kept_err]
              obtain ⟨sv, h1, h2, h3, h4⟩ := Jr.out
              have hbl := cell_lt h1
              clear ht hv
              go_wp2_with (at_builtin; refine wpList_append_lies _ rfl (.tmp 38) (.tmp 40) 226 rfl w.heap.size 93 i0 _ 1 16 Tryz.underlying226 hi0 hz0 hz1 hz2 rfl (by decide) sv _ _ rfl (h3.alloc _) ⟨wr.heap.size, 0, none⟩ 1 1 [errV x] rfl rfl (World.news_of_block (cs := #[errV x]) (t := 93) (fr := (0, 0)) (heap_alloc_new wr _)) (by simp [Value.oneCell']) (by decide) (by unfold maxLen; omega) (by omega) (by simp; omega) (wr.heap.size + 1) (by simp) ?_; intro g2 cap w3 hown2 hgrow hat hglt; (have hf2 : w3.frozen? ⟨w.heap.size + 1, 0, none⟩ = false := by rw [hgrow.frozen_far _ (by simp; omega) (Ne.symm h4)]; exact (World.frozen?_alloc_old wr _ ⟨w.heap.size + 1, 0, none⟩ (Nat.ne_of_lt hbl)).trans h2); (have hc2 : w3.cell? ⟨w.heap.size + 1, 0, none⟩ = some sv := by rw [hgrow.cell_far _ (by simp; omega) (Ne.symm h4)]; exact (World.cell?_alloc_lt wr _ ⟨w.heap.size + 1, 0, none⟩ hbl).trans h1))
              go_roundw
              case rel =>
                refine ⟨k + 1, by omega, by go_num, ?_, ?_⟩
                · rw [hk]
                  exact jb_stored hc2 hf2 hown2 (fun e => by rcases hat with h | h; (rw [e] at h; exact h4 h); omega)
                · have q1 := Br.out.alloc Br.out.size (.cells #[errV x] 93)
                  exact (below_grown q1 hgrow q1.size (fun q hq => (h3.lt q hq).1)).setCell (p := ⟨w.heap.size + 1, 0, none⟩) (by simp) _
              case measure => simp [intOf]; omega
            · have hk : kept (vs.take (k + 1)) = kept (vs.take k) ++ [joinV b] := by rw [ht, kept_append, kept_join]
              obtain ⟨sv, h1, h2, h3, h4⟩ := Jr.out
              have hbl := cell_lt h1
              clear ht hv
              go_wp2_with (at_builtin; refine wpList_append_lies _ rfl (.tmp 38) (.tmp 40) 226 rfl w.heap.size 93 i0 _ 1 16 Tryz.underlying226 hi0 hz0 hz1 hz2 rfl (by decide) sv _ _ rfl (h3.alloc _) ⟨wr.heap.size, 0, none⟩ 1 1 [joinV b] rfl rfl (World.news_of_block (cs := #[joinV b]) (t := 93) (fr := (0, 0)) (heap_alloc_new wr _)) (by simp [Value.oneCell']) (by decide) (by unfold maxLen; omega) (by omega) (by simp; omega) (wr.heap.size + 1) (by simp) ?_; intro g2 cap w3 hown2 hgrow hat hglt; (have hf2 : w3.frozen? ⟨w.heap.size + 1, 0, none⟩ = false := by rw [hgrow.frozen_far _ (by simp; omega) (Ne.symm h4)]; exact (World.frozen?_alloc_old wr _ ⟨w.heap.size + 1, 0, none⟩ (Nat.ne_of_lt hbl)).trans h2); (have hc2 : w3.cell? ⟨w.heap.size + 1, 0, none⟩ = some sv := by rw [hgrow.cell_far _ (by simp; omega) (Ne.symm h4)]; exact (World.cell?_alloc_lt wr _ ⟨w.heap.size + 1, 0, none⟩ hbl).trans h1))
              go_roundw
              case rel =>
                refine ⟨k + 1, by omega, by go_num, ?_, ?_⟩
                · rw [hk]
                  exact jb_stored hc2 hf2 hown2 (fun e => by rcases hat with h | h; (rw [e] at h; exact h4 h); omega)
                · have q1 := Br.out.alloc Br.out.size (.cells #[joinV b] 93)
                  exact (below_grown q1 hgrow q1.size (fun q hq => (h3.lt q hq).1)).setCell (p := ⟨w.heap.size + 1, 0, none⟩) (by simp) _
              case measure => simp [intOf]; omega
          · have hlI : ¬ ((k : Int) < (i : Int)) := by omega
            obtain rfl : k = i := by omega
            have hJ := Jr.out
            rw [show vs.take k = vs from List.take_of_length_le (by omega)] at hJ
            have Jv := Lib.hid hJ
            clear hJ
            go_wp2
            go_ret
            exact ⟨.inr ⟨_, rfl, Jv.out.jn⟩, Br.out⟩
end Go.Proofs.YtmmpknfkncgjpaaGreatDoor

namespace Go.Proofs.YtmmpknfkncgjpaaGreatDoor
open Go.RowKit Go.Extern.Stop Go.Stop Go.Extern

theorem typeOfE (v : Value) (w : World) : (ReflectliteType.typeOf #[.iface 57 v]).run Tryz.prog w = .ok (.iface 256 (.agg #[.pointer (some ⟨3, 57, none⟩)])) w := by kernel_rfl
theorem comparableE (w : World) : ((ReflectliteType.method fun t => do Rtype.noPackHeld "Comparable" t; Functor.map (fun a : TypeInfo => Value.bool a.comparable) (typeInfo t)) #[.agg #[.pointer (some ⟨3, 57, none⟩)]]).run Tryz.prog w = .ok (.bool true) w := by kernel_rfl
theorem comparE : (Tryz.prog.info? 57).map (·.comparable) = some true := by kernel_rfl
theorem noIsE (v : Value) (xT : TypeId) (w : World) : (Instr.typeAssert (.iface 57 v) xT 258 true).run Tryz.prog w = .ok (.tuple #[.nilIface, .bool false]) w := run_typeAssert_lacksB Tryz.underlying258 (by kernel_rfl) (by kernel_rfl) v xT w
theorem noUnwrapE (v : Value) (xT : TypeId) (w : World) : (Instr.typeAssert (.iface 57 v) xT 261 true).run Tryz.prog w = .ok (.tuple #[.nilIface, .bool false]) w := run_typeAssert_lacksB Tryz.underlying261 (by kernel_rfl) (by kernel_rfl) v xT w
theorem noUnwrapsE (v : Value) (xT : TypeId) (w : World) : (Instr.typeAssert (.iface 57 v) xT 263 true).run Tryz.prog w = .ok (.tuple #[.nilIface, .bool false]) w := run_typeAssert_lacksB Tryz.underlying263 (by kernel_rfl) (by kernel_rfl) v xT w
theorem noIsJ (v : Value) (xT : TypeId) (w : World) : (Instr.typeAssert (.iface 227 v) xT 258 true).run Tryz.prog w = .ok (.tuple #[.nilIface, .bool false]) w := run_typeAssert_lacksB Tryz.underlying258 (by kernel_rfl) (by kernel_rfl) v xT w
theorem noUnwrapJ (v : Value) (xT : TypeId) (w : World) : (Instr.typeAssert (.iface 227 v) xT 261 true).run Tryz.prog w = .ok (.tuple #[.nilIface, .bool false]) w := run_typeAssert_lacksB Tryz.underlying261 (by kernel_rfl) (by kernel_rfl) v xT w
theorem hasUnwrapsJ (v : Value) (xT : TypeId) (w : World) : (Instr.typeAssert (.iface 227 v) xT 263 true).run Tryz.prog w = .ok (.tuple #[.iface 227 v, .bool true]) w := run_typeAssert_hasB Tryz.underlying263 (by kernel_rfl) v xT w
theorem eqJE (b : Nat) (y : Int) (w : World) : (binOp .eql 93 (joinV b) (errV y)).run Tryz.prog w = .ok (.bool false) w := by kernel_rfl

/-- The error v is nothing, or a number. -/
def ES0 (v : Value) (es : List Int) : Prop := (v = .nilIface ∧ es = []) ∨ ∃ x, v = errV x ∧ es = [x]
/-- The error v has the numbers es. -/
def ES (w : World) : Nat → Value → List Int → Prop
  | 0, v, es => ES0 v es
  | d + 1, v, es => ES0 v es ∨ ∃ (b : Nat) (us : List Value) (ess : List (List Int)), v = joinV b ∧ Jn w b us ∧ us.length = ess.length ∧ us.length ≤ 100 ∧ (∀ (j : Nat) (u : Value), us[j]? = some u → notN u = true ∧ ∃ es', ess[j]? = some es' ∧ ES w d u es') ∧ es = ess.flatten
theorem ES.below {w w' : World} (hb : Below w.heap.size w w') : ∀ {d : Nat} {v : Value} {es : List Int}, ES w d v es → ES w' d v es
  | 0, _, _, h => h
  | d + 1, _, _, h => by
    rcases h with h | ⟨b, us, ess, h1, h2, h3, h4, h5, h6⟩
    · exact .inl h
    · exact .inr ⟨b, us, ess, h1, h2.below hb, h3, h4, fun j u hu => ⟨(h5 j u hu).1, by obtain ⟨es', k1, k2⟩ := (h5 j u hu).2; exact ⟨es', k1, ES.below hb k2⟩⟩, h6⟩

set_option maxRecDepth 100000 in
set_option maxHeartbeats 2000000 in
theorem is_num (x y : Int) (w : World) :
    Calls Tryz.prog 151 #[errV x, errV y, .bool true] w fun e w' => e = .returned (.bool (x == y)) ∧ w = w' := by
  have nE := noIsE
  have uE := noUnwrapE
  have vE := noUnwrapsE
  have heq := Lib.run_eql_iface_int (P := Tryz.prog) (t := 93) (tx := 57) (k := .i64) w x y Tryz.underlying93 comparE Tryz.underlying57
  by_cases hxy : (x == y) = true
  · rw [hxy] at heq ⊢
    go_enter Tryz.func151, Tryz.ntmps151
    go_wp2
    refine wp_loop_rounds 1 ?_
    rw [rounds_succ]
    go_wp2
    go_ret
    exact ⟨rfl, rfl⟩
  · have hxy' : (x == y) = false := by simpa using hxy
    rw [hxy'] at heq ⊢
    clear hxy hxy'
    go_enter Tryz.func151, Tryz.ntmps151
    go_wp2
    refine wp_loop_rounds 1 ?_
    rw [rounds_succ]
    go_wp2
    go_ret
    exact ⟨rfl, rfl⟩
theorem unwrap_any (b : Nat) (sv : Value) (w : World) (h : w.cell? ⟨b, 0, none⟩ = some sv) :
    Calls Tryz.prog 220 #[.pointer (some ⟨b, 0, none⟩)] w fun e w' => e = .returned sv ∧ w = w' := by
  go_enter Tryz.func220, Tryz.ntmps220
  go_wp2
  go_ret
  exact ⟨rfl, rfl⟩

set_option maxRecDepth 100000 in
set_option maxHeartbeats 2000000 in
theorem is_any : ∀ (d : Nat) (v : Value) (es : List Int) (y : Int) (w : World), notN v = true → ES w d v es →
    Calls Tryz.prog 151 #[v, errV y, .bool true] w fun e w' => e = .returned (.bool (decide (y ∈ es))) ∧ w = w' := by
  have base : ∀ (v : Value) (es : List Int) (y : Int) (w : World), notN v = true → ES0 v es → Calls Tryz.prog 151 #[v, errV y, .bool true] w fun e w' => e = .returned (.bool (decide (y ∈ es))) ∧ w = w' := by
    intro v es y w hn hE
    rcases hE with ⟨rfl, _⟩ | ⟨x, rfl, rfl⟩
    · cases hn
    · refine (is_num x y w).mono fun e w' ⟨he, hw⟩ => ⟨?_, hw⟩
      rw [he]
      congr 2
      by_cases hxy : x = y
      · subst hxy; simp
      · have : ¬ y = x := fun e => hxy e.symm
        simp [hxy, this]
  intro d
  induction d with
  | zero => exact base
  | succ d ih =>
    intro v es y w hn hE
    rcases hE with hE | ⟨b, us, ess, rfl, hJ, hlen, h100, hU, rfl⟩
    · exact base v es y w hn hE
    · have iJ := noIsJ
      have uJ := noUnwrapJ
      have vJ := hasUnwrapsJ
      have eJ := eqJE b y
      obtain ⟨sv, c0, -, hown, -⟩ := hJ
      have HU := Lib.hid hU
      have HI := Lib.hid ih
      obtain ⟨ans, hans⟩ : ∃ ans, decide (y ∈ ess.flatten) = ans := ⟨_, rfl⟩
      rw [hans]
      have HA := Lib.hid hans
      have HW := Lib.hid (unwrap_any b sv w c0)
      obtain ⟨A, c, rfl, hcs⟩ : ∃ A c, sv = .slice A us.length c ∧ ∀ j u, us[j]? = some u → ∃ g, A = some ⟨g, 0, none⟩ ∧ w.cell? ⟨g, j, none⟩ = some u := by
        rcases owns_form (f := fun x : Value => [x]) (l := us) (by simpa using hown) (fun _ _ => rfl) with ⟨hv, h0⟩ | ⟨g, cap, hv, -, -, -, hat⟩
        · exact ⟨none, 0, by rw [hv, h0]; rfl, fun j u hu => by rw [h0] at hu; simp at hu⟩
        · exact ⟨_, cap, hv, fun j u hu => ⟨g, rfl, by have := hat j u hu 0 _ rfl; simpa using this⟩⟩
      have HC := Lib.hid hcs
      clear hU ih hans c0 hown hcs base
      go_enter Tryz.func151, Tryz.ntmps151
      go_wp2
      refine wp_loop_rounds 1 ?_
      rw [rounds_succ]
      go_wp2_with fail
      go_at_call 220
      refine HW.out.mono ?_
      rintro e w' ⟨rfl, rfl⟩
      go_wp2
      go_loop [45] (fun iv => ∃ k : Nat, k ≤ us.length ∧ iv = .int .i64 k ∧ ∀ j l, j < k → ess[j]? = some l → y ∉ l) (fun iv => us.length - (intOf iv).toNat)
      case atStart => exact ⟨0, Nat.zero_le _, rfl, fun j l hj => by omega⟩
      case round =>
        obtain ⟨k, hk, rfl, hno⟩ := hrel
        have HN := Lib.hid hno
        clear hno
        by_cases hlt : k < us.length
        · have hlI : (k : Int) < (us.length : Int) := by omega
          have hkI : (0 : Int) ≤ (k : Int) := by omega
          obtain ⟨u, hu⟩ : ∃ u, us[k]? = some u := ⟨_, List.getElem?_eq_getElem (by omega)⟩
          obtain ⟨hun, es', hes, hE⟩ := HU.out k u hu
          obtain ⟨g, rfl, hc⟩ := HC.out k u hu
          have HK := Lib.hid (HI.out u es' y w hun hE)
          clear hE hun hu
          by_cases hy : y ∈ es'
          · have ha : ans = true := by rw [← HA.out]; simpa using ⟨es', List.mem_of_getElem? hes, hy⟩
            have HY := Lib.hid (show decide (y ∈ es') = true from decide_eq_true hy)
            have HA2 := Lib.hid ha
            clear hy hes ha
            go_wp2_with fail
            go_at_call 151
            refine HK.out.mono ?_
            rintro e w' ⟨rfl, rfl⟩
            rw [HY.out]
            go_wp2
            go_ret
            exact ⟨by rw [HA2.out]; rfl, rfl⟩
          · have HY := Lib.hid (show decide (y ∈ es') = false from decide_eq_false hy)
            have HS := Lib.hid hes
            clear hy hes
            go_wp2_with fail
            go_at_call 151
            refine HK.out.mono ?_
            rintro e w' ⟨rfl, rfl⟩
            rw [HY.out]
            go_wp2
            go_round
            case rel =>
              refine ⟨k + 1, by omega, by go_num, fun j l hj hl => ?_⟩
              rcases Nat.lt_or_ge j k with h | h
              · exact HN.out j l h hl
              · obtain rfl : j = k := by omega
                have := HS.out
                rw [hl] at this
                rw [Option.some.inj this]
                exact of_decide_eq_false HY.out
            case measure => simp [intOf]; omega
        · have hlI : ¬ ((k : Int) < (us.length : Int)) := by omega
          obtain rfl : k = us.length := by omega
          have ha : ans = false := by
            rw [← HA.out]
            apply decide_eq_false
            intro hm
            obtain ⟨l, hl, hy⟩ := List.mem_flatten.1 hm
            obtain ⟨j, hj⟩ := List.getElem?_of_mem hl
            exact HN.out j l (by rw [hlen]; exact (List.getElem?_eq_some_iff.1 hj).1) hj hy
          have HA2 := Lib.hid ha
          clear ha
          go_wp2
          go_ret
          exact ⟨by rw [HA2.out]; rfl, rfl⟩
end Go.Proofs.YtmmpknfkncgjpaaGreatDoor
