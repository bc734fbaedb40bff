/-
  errors.Join by a contract (Go's own text is walked): what it joins, in a row of its own; within, unless.
-/
import Derived.Test.YtacdbfaoeioflaaDoorRw
import Derived.Test.YtacdbfaoeioflaaDoorCells
import Derived.Stop.Asserts
import Derived.Lib.IfaceEq
namespace Go.Proofs.YtacdbfaoeioflaaDoor
open Go.RowKit Go.Extern.Stop Go.Stop Go.Extern

@[reducible] def errV (x : Int) : Value := .iface 24 (.int .i64 x)
@[reducible] def joinV (b : Nat) : Value := .iface 112 (.pointer (some ⟨b, 0, none⟩))
/-- An error value, as this program has them. -/
def EV (v : Value) : Prop := v = .nilIface ∨ (∃ x, v = errV x) ∨ ∃ b, v = joinV b
def notN : Value → Bool
  | .nilIface => false
  | _ => true
def kept (vs : List Value) : List Value := vs.filter notN
theorem kept_append (a b : List Value) : kept (a ++ b) = kept a ++ kept b := by unfold kept; rw [List.filter_append]
theorem kept_nil_one : kept [.nilIface] = [] := rfl
theorem kept_err (x : Int) : kept [errV x] = [errV x] := rfl
theorem kept_join (b : Nat) : kept [joinV b] = [joinV b] := rfl
theorem kept_len (vs : List Value) : (kept vs).length ≤ vs.length := List.length_filter_le _ _
theorem ev_one {vs : List Value} (h : ∀ v ∈ vs, EV v) : ∀ u ∈ kept vs, u.oneCell' = true := fun u hu => by
  rcases h u (List.mem_filter.1 hu).1 with rfl | ⟨x, rfl⟩ | ⟨b, rfl⟩ <;> rfl

/-- Joined errors us in block b. -/
def Jn (w : World) (b : Nat) (us : List Value) : Prop :=
  ∃ sv, w.cell? ⟨b, 0, none⟩ = some sv ∧ w.frozen? ⟨b, 0, none⟩ = false ∧ w.ownsRow 0 35 1 sv us.length us ∧ sv.ownBlock ≠ some b
theorem Jn.lt {w : World} {b : Nat} {us : List Value} (h : Jn w b us) : b < w.heap.size := by obtain ⟨sv, h1, -⟩ := h; exact cell_lt h1
theorem Jn.below {w w' : World} {b : Nat} {us : List Value} (h : Jn w b us) (hb : Below w.heap.size w w') : Jn w' b us := by
  have hl := h.lt
  obtain ⟨sv, h1, h2, h3, h4⟩ := h
  exact ⟨sv, by rw [hb.cell (p := ⟨b, 0, none⟩) hl]; exact h1, by rw [World.frozen?_of_block (w := w) (a := ⟨b, 0, none⟩) (hb.block b hl)]; exact h2, ownsRow_below hb h3, h4⟩

theorem within_any (x a b : Int) (w : World) :
    Calls Tryd.prog 30 #[.int .i64 x, .int .i64 a, .int .i64 b] w fun e w' => e = .returned (.bool (decide (a ≤ x ∧ x ≤ b))) ∧ w = w' := by
  by_cases h0 : a ≤ x
  · by_cases h1 : x ≤ b
    · have e : decide (a ≤ x ∧ x ≤ b) = true := by simp; omega
      rw [e]
      go_enter Tryd.func30, Tryd.ntmps30
      go_wp2
      go_ret
      exact ⟨rfl, rfl⟩
    · have e : decide (a ≤ x ∧ x ≤ b) = false := by simp; omega
      rw [e]
      go_enter Tryd.func30, Tryd.ntmps30
      go_wp2
      go_ret
      exact ⟨rfl, rfl⟩
  · have e : decide (a ≤ x ∧ x ≤ b) = false := by simp; omega
    rw [e]
    go_enter Tryd.func30, Tryd.ntmps30
    go_wp2
    go_ret
    exact ⟨rfl, rfl⟩
/-- What unless answers. -/
def unl (p : Bool) (x : Int) : Value := match p with
  | true => .nilIface
  | false => errV x
theorem unl_ev (p : Bool) (x : Int) : EV (unl p x) := by cases p; (exact .inr (.inl ⟨x, rfl⟩)); (exact .inl rfl)
theorem unless_any (p : Bool) (x : Int) (w : World) :
    Calls Tryd.prog 29 #[.bool p, .int .i64 x] w fun e w' => e = .returned (unl p x) ∧ w = w' := by
  cases p
  all_goals
    go_enter Tryd.func29, Tryd.ntmps29
    go_wp2
    go_ret
    exact ⟨rfl, rfl⟩

theorem infoErr : (Tryd.prog.info? 35).map (fun i => (i.zero, i.size, i.bytes)) = some (some .nilIface, 1, 16) := by kernel_rfl
theorem take_one {vs : List Value} {i : Nat} {v : Value} (h : vs[i]? = some v) : vs.take (i + 1) = vs.take i ++ [v] := by
  rw [List.take_add_one, h]; rfl

/-- The arguments, in memory. -/
def Args (w : World) (g n : Nat) (vs : List Value) : Prop := vs.length = n ∧ n ≤ 100 ∧ (∀ v ∈ vs, EV v) ∧ ∀ j v, vs[j]? = some v → w.cell? ⟨g, j, none⟩ = some v
theorem Args.below {w w' : World} {g n : Nat} {vs : List Value} (h : Args w g n vs) (hb : Below w.heap.size w w') : Args w' g n vs :=
  ⟨h.1, h.2.1, h.2.2.1, fun j v hv => by rw [hb.cell (p := ⟨g, j, none⟩) (cell_lt (h.2.2.2 j v hv))]; exact h.2.2.2 j v hv⟩

/-- The same, while it is made: its row is from the block N on. -/
def Jb (N : Nat) (w : World) (b : Nat) (us : List Value) : Prop :=
  ∃ sv, w.cell? ⟨b, 0, none⟩ = some sv ∧ w.frozen? ⟨b, 0, none⟩ = false ∧ w.ownsRow N 35 1 sv us.length us ∧ sv.ownBlock ≠ some b
theorem Jb.jn {N : Nat} {w : World} {b : Nat} {us : List Value} (h : Jb N w b us) : Jn w b us := by
  obtain ⟨sv, h1, h2, h3, h4⟩ := h
  refine ⟨sv, h1, h2, ⟨h3.1, ?_⟩, h4⟩
  rcases h3.2 with h | ⟨g, cap, cur, e, _, r⟩
  · exact .inl h
  · exact .inr ⟨g, cap, cur, e, Nat.zero_le _, r⟩
theorem below_grown {B : Nat} {w0 w w' : World} {row : Option Nat} (h : Below B w0 w) (hg : w.grownBy w' row) (hB : B ≤ w.heap.size) (hr : ∀ k, row = some k → B ≤ k) : Below B w0 w' :=
  ⟨hg.os.trans h.os, hg.tape.trans h.tape, hg.output.trans h.output, Nat.le_trans h.size hg.size, fun k hk => (hg.block k (by omega) (fun e => by have := hr k e.symm; omega)).trans (h.block k hk)⟩
theorem jb_stored {N b : Nat} {w3 : World} {sv v : Value} {us : List Value} {g cap : Nat} (hc : w3.cell? ⟨b, 0, none⟩ = some sv) (hf : w3.frozen? ⟨b, 0, none⟩ = false) (hown : w3.ownsRow N 35 1 (.slice (some ⟨g, 0, none⟩) (us.length + 1) cap) (us.length + 1) (us ++ [v])) (hg : g ≠ b) :
    Jb N (w3.setCell ⟨b, 0, none⟩ (.slice (some ⟨g, 0, none⟩) (us.length + 1) cap)) b (us ++ [v]) := by
  refine ⟨_, World.cell?_setCell_same _ _ _ hc, by rw [World.frozen?_setCell]; exact hf, ?_, by simp [Value.ownBlock]; exact hg⟩
  rw [List.length_append]
  exact owns_kept hown fun q hq => by
    simp only [Value.ownBlock, Option.some.injEq] at hq
    subst hq
    exact Below.heap_setCell _ _ _ _ hg
set_option maxRecDepth 100000 in
set_option maxHeartbeats 2000000 in
theorem join_any (g n c : Nat) (vs : List Value) (w : World) (hA : Args w g n vs) :
    Calls Tryd.prog 28 #[.slice (some ⟨g, 0, none⟩) n c] w fun e w' => ((kept vs = [] ∧ e = .returned .nilIface) ∨ ∃ b, e = .returned (joinV b) ∧ Jn w' b (kept vs)) ∧ Below w.heap.size w w' := by
  obtain ⟨i0, hi0, hz0, hz1, hz2⟩ := info_parts infoErr
  have HA := Lib.hid hA
  obtain ⟨hlen, hn100, hEV, hcell⟩ := hA
  have HE := Lib.hid hEV
  have HC := Lib.hid hcell
  clear hEV hcell
  go_enter Tryd.func28, Tryd.ntmps28
  go_wp2
  go_loop [3, 11] (fun nv iv => ∃ i : Nat, i ≤ n ∧ iv = .int .i64 i ∧ nv = .int .i64 (kept (vs.take i)).length) (fun _ iv => n - (intOf iv).toNat)
  case atStart => exact ⟨0, Nat.zero_le _, rfl, by simp [kept]⟩
  case round =>
    obtain ⟨i, hi, rfl, rfl⟩ := hrel
    by_cases hlt : i < n
    · have hlI : (i : Int) < (n : Int) := by omega
      obtain ⟨v, hv⟩ : ∃ v, vs[i]? = some v := ⟨_, List.getElem?_eq_getElem (by omega)⟩
      have hc := HC.out i v hv
      have ht := take_one hv
      have hkl := kept_len (vs.take i)
      rw [List.length_take] at hkl
      rcases HE.out v (List.mem_of_getElem? hv) with rfl | ⟨x, rfl⟩ | ⟨b, rfl⟩
      · have hk : (kept (vs.take (i + 1))).length = (kept (vs.take i)).length := by rw [ht, kept_append, kept_nil_one, List.append_nil]
        go_wp2
        go_round
        case rel => exact ⟨i + 1, by omega, by go_num, by rw [hk]⟩
        case measure => simp [intOf]; omega
      · have hk : (kept (vs.take (i + 1))).length = (kept (vs.take i)).length + 1 := by rw [ht, kept_append, kept_err, List.length_append]; rfl
        go_wp2
        go_round
        case rel => exact ⟨i + 1, by omega, by go_num, by rw [hk]; go_num⟩
        case measure => simp [intOf]; omega
      · have hk : (kept (vs.take (i + 1))).length = (kept (vs.take i)).length + 1 := by rw [ht, kept_append, kept_join, List.length_append]; rfl
        go_wp2
        go_round
        case rel => exact ⟨i + 1, by omega, by go_num, by rw [hk]; go_num⟩
        case measure => simp [intOf]; omega
    · have hlI : ¬ ((i : Int) < (n : Int)) := by omega
      obtain rfl : i = n := by omega
      rw [show vs.take i = vs from List.take_of_length_le (by omega)]
      have hkl := kept_len vs
      by_cases h0 : kept vs = []
      · rw [h0]
        go_wp2
        go_ret
        exact ⟨.inl rfl, Below.refl _ _⟩
      · obtain ⟨m, hm⟩ : ∃ m, (kept vs).length = m := ⟨_, rfl⟩
        rw [hm]
        have hm0 : 0 < m := by rw [← hm]; exact List.length_pos_iff.2 h0
        have hmI : ((m : Int) == 0) = false := by simp; omega
        have hmp : (0 : Int) ≤ (m : Int) := by omega
        have hmk := run_make (P := Tryd.prog) w 111 35 i0 .nilIface Tryd.underlying111 hi0 hz0 .i64 .i64 0 (m : Int) (Int.le_refl _) hmp (by rw [hz2]; omega) (by omega)
        have hmade := World.ownsRow_made (base := w.heap.size) (e := 35) (size := i0.size) w (madeCells (Value.nilIface).cells (m * i0.size)) m (Nat.le_refl _) (by unfold maxLen; omega) (size_madeCells _ _)
        rw [hz1] at hmade hmk
        simp only [Int.toNat_zero, Int.toNat_natCast] at hmk
        have B1 : Below w.heap.size w (w.alloc (.cells (madeCells (Value.nilIface).cells (m * 1)) 35)) := (Below.refl _ _).alloc (Nat.le_refl _) _
        have Z1 : (w.alloc (.cells (madeCells (Value.nilIface).cells (m * 1)) 35)).heap.size = w.heap.size + 1 := by simp
        generalize w.alloc (.cells (madeCells (Value.nilIface).cells (m * 1)) 35) = w1 at hmk hmade B1 Z1
        go_wp2_with fail
        have J2 : Jb w.heap.size (w1.alloc (.cells #[.slice (some ⟨w.heap.size, 0, none⟩) 0 m] 114)) (w.heap.size + 1) [] := ⟨_, by rw [← Z1]; simp, by rw [← Z1]; simp, hmade.alloc _, by simp [Value.ownBlock]⟩
        have B2 := B1.alloc B1.size (.cells #[.slice (some ⟨w.heap.size, 0, none⟩) 0 m] 114)
        have Z2 : (w1.alloc (.cells #[.slice (some ⟨w.heap.size, 0, none⟩) 0 m] 114)).heap.size = w.heap.size + 2 := by simp [Z1]
        generalize w1.alloc (.cells #[.slice (some ⟨w.heap.size, 0, none⟩) 0 m] 114) = w2 at J2 B2 Z2 ⊢
        have J2' := Lib.hid J2
        have B2' := Lib.hid B2
        have hz : w.heap.size < w2.heap.size := by omega
        clear J2 B2 hmk hmade B1 Z1 h0
        go_loopw [28] (fun iv wr => ∃ k : Nat, k ≤ i ∧ iv = .int .i64 k ∧ Jb w.heap.size wr (w.heap.size + 1) (kept (vs.take k)) ∧ Below w.heap.size w wr) (fun iv _ => i - (intOf iv).toNat)
        case atStart => exact ⟨0, Nat.zero_le _, rfl, by simpa [kept] using J2'.out, B2'.out⟩
        case round =>
          obtain ⟨k, hk0, rfl, hJ, hB⟩ := hrel
          have Jr := Lib.hid hJ
          have Br := Lib.hid hB
          clear hJ hB
          by_cases hlt : k < i
          · have hlI : (k : Int) < (i : Int) := by omega
            have hkI : (0 : Int) ≤ (k : Int) := by omega
            obtain ⟨v, hv⟩ : ∃ v, vs[k]? = some v := ⟨_, List.getElem?_eq_getElem (by omega)⟩
            have hc := HC.out k v hv
            have hc := (Br.out.cell (p := ⟨g, k, none⟩) (cell_lt hc)).trans hc
            have ht := take_one hv
            have hkl := kept_len (vs.take k)
            rw [List.length_take] at hkl
            rcases HE.out v (List.mem_of_getElem? hv) with rfl | ⟨x, rfl⟩ | ⟨b, rfl⟩
            · have hk : kept (vs.take (k + 1)) = kept (vs.take k) := by rw [ht, kept_append, kept_nil_one, List.append_nil]
              clear ht hv
              go_wp2
              go_roundw
              case rel => exact ⟨k + 1, by omega, by go_num, by rw [hk]; exact Jr.out, Br.out⟩
              case measure => simp [intOf]; omega
            · have hk : kept (vs.take (k + 1)) = kept (vs.take k) ++ [errV x] := by rw [ht, kept_append, kept_err]
              obtain ⟨sv, h1, h2, h3, h4⟩ := Jr.out
              have hbl := cell_lt h1
              clear ht hv
              go_wp2_with (at_builtin; refine wpList_append_lies _ rfl (.tmp 38) (.tmp 40) 111 rfl w.heap.size 35 i0 _ 1 16 Tryd.underlying111 hi0 hz0 hz1 hz2 rfl (by decide) sv _ _ rfl (h3.alloc _) ⟨wr.heap.size, 0, none⟩ 1 1 [errV x] rfl rfl (World.news_of_block (cs := #[errV x]) (t := 35) (fr := (0, 0)) (heap_alloc_new wr _)) (by simp [Value.oneCell']) (by decide) (by unfold maxLen; omega) (by omega) (by simp; omega) (wr.heap.size + 1) (by simp) ?_; intro g2 cap w3 hown2 hgrow hat hglt; (have hf2 : w3.frozen? ⟨w.heap.size + 1, 0, none⟩ = false := by rw [hgrow.frozen_far _ (by simp; omega) (Ne.symm h4)]; exact (World.frozen?_alloc_old wr _ ⟨w.heap.size + 1, 0, none⟩ (Nat.ne_of_lt hbl)).trans h2); (have hc2 : w3.cell? ⟨w.heap.size + 1, 0, none⟩ = some sv := by rw [hgrow.cell_far _ (by simp; omega) (Ne.symm h4)]; exact (World.cell?_alloc_lt wr _ ⟨w.heap.size + 1, 0, none⟩ hbl).trans h1))
              go_roundw
              case rel =>
                refine ⟨k + 1, by omega, by go_num, ?_, ?_⟩
                · rw [hk]
                  exact jb_stored hc2 hf2 hown2 (fun e => by rcases hat with h | h; (rw [e] at h; exact h4 h); omega)
                · have q1 := Br.out.alloc Br.out.size (.cells #[errV x] 35)
                  exact (below_grown q1 hgrow q1.size (fun q hq => (h3.lt q hq).1)).setCell (p := ⟨w.heap.size + 1, 0, none⟩) (by simp) _
              case measure => simp [intOf]; omega
            · have hk : kept (vs.take (k + 1)) = kept (vs.take k) ++ [joinV b] := by rw [ht, kept_append, kept_join]
              obtain ⟨sv, h1, h2, h3, h4⟩ := Jr.out
              have hbl := cell_lt h1
              clear ht hv
              go_wp2_with (at_builtin; refine wpList_append_lies _ rfl (.tmp 38) (.tmp 40) 111 rfl w.heap.size 35 i0 _ 1 16 Tryd.underlying111 hi0 hz0 hz1 hz2 rfl (by decide) sv _ _ rfl (h3.alloc _) ⟨wr.heap.size, 0, none⟩ 1 1 [joinV b] rfl rfl (World.news_of_block (cs := #[joinV b]) (t := 35) (fr := (0, 0)) (heap_alloc_new wr _)) (by simp [Value.oneCell']) (by decide) (by unfold maxLen; omega) (by omega) (by simp; omega) (wr.heap.size + 1) (by simp) ?_; intro g2 cap w3 hown2 hgrow hat hglt; (have hf2 : w3.frozen? ⟨w.heap.size + 1, 0, none⟩ = false := by rw [hgrow.frozen_far _ (by simp; omega) (Ne.symm h4)]; exact (World.frozen?_alloc_old wr _ ⟨w.heap.size + 1, 0, none⟩ (Nat.ne_of_lt hbl)).trans h2); (have hc2 : w3.cell? ⟨w.heap.size + 1, 0, none⟩ = some sv := by rw [hgrow.cell_far _ (by simp; omega) (Ne.symm h4)]; exact (World.cell?_alloc_lt wr _ ⟨w.heap.size + 1, 0, none⟩ hbl).trans h1))
              go_roundw
              case rel =>
                refine ⟨k + 1, by omega, by go_num, ?_, ?_⟩
                · rw [hk]
                  exact jb_stored hc2 hf2 hown2 (fun e => by rcases hat with h | h; (rw [e] at h; exact h4 h); omega)
                · have q1 := Br.out.alloc Br.out.size (.cells #[joinV b] 35)
                  exact (below_grown q1 hgrow q1.size (fun q hq => (h3.lt q hq).1)).setCell (p := ⟨w.heap.size + 1, 0, none⟩) (by simp) _
              case measure => simp [intOf]; omega
          · have hlI : ¬ ((k : Int) < (i : Int)) := by omega
            obtain rfl : k = i := by omega
            have hJ := Jr.out
            rw [show vs.take k = vs from List.take_of_length_le (by omega)] at hJ
            have Jv := Lib.hid hJ
            clear hJ
            go_wp2
            go_ret
            exact ⟨.inr ⟨_, rfl, Jv.out.jn⟩, Br.out⟩
end Go.Proofs.YtacdbfaoeioflaaDoor
