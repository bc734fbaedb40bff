/-
  Chain and Code of an error that is a chain of Faults, of whatever length up to 1000: all numbers, from the outside in; the first one.
-/
import Derived.Test.YthjinpbclfankaaGreatDoorFault
import Derived.LoopTactic
import Derived.Lib.Hide
namespace Go.Proofs.YthjinpbclfankaaGreatDoor
open Go.RowKit Go.Extern.Stop Go.Stop Go.Extern

/-- The error v is nothing, or a Fault in memory on such an error: es are the numbers, from the outside in. -/
def Chained (w : World) : Value → List Int → Prop
  | v, [] => v = .nilIface
  | v, e :: es => ∃ b o u, v = .iface 127 (.pointer (some ⟨b, o, none⟩)) ∧ w.cell? ⟨b, o, none⟩ = some (.int .i64 e) ∧ w.cell? ⟨b, o + 2, none⟩ = some u ∧ Chained w u es

theorem cell_lt {w : World} {b o : Nat} {v : Value} (h : w.cell? ⟨b, o, none⟩ = some v) : b < w.heap.size := by
  rcases Nat.lt_or_ge b w.heap.size with h1 | h1
  · exact h1
  · simp [World.cell?, Array.getElem?_eq_none h1] at h

theorem Chained.below {w w' : World} (hb : Below w.heap.size w w') : ∀ {es : List Int} {v : Value}, Chained w v es → Chained w' v es
  | [], _, h => h
  | _ :: _, _, ⟨b, o, u, hv, he, hu, hr⟩ => ⟨b, o, u, hv, by rw [hb.cell (p := ⟨b, o, none⟩) (cell_lt he)]; exact he, by rw [hb.cell (p := ⟨b, o + 2, none⟩) (cell_lt hu)]; exact hu, hr.below hb⟩

theorem ErrType.below {w w' : World} (hg : ErrType w) (hb : Below w.heap.size w w') : ErrType w' := by
  unfold ErrType at *
  rw [hb.cell (p := ⟨0, 0, none⟩) (cell_lt hg)]; exact hg

theorem ownsRow_below {w w' : World} (hb : Below w.heap.size w w') {base : Nat} {e : TypeId} {size : Nat} {v : Value} {n : Nat} {xs : List Value} (h : w.ownsRow base e size v n xs) : w'.ownsRow base e size v n xs := by
  obtain ⟨h1, h2⟩ := h
  refine ⟨h1, ?_⟩
  rcases h2 with h2 | ⟨g, cap, cur, hv, hg, hh, r⟩
  · exact Or.inl h2
  · refine Or.inr ⟨g, cap, cur, hv, hg, ?_, r⟩
    have hlt : g < w.heap.size := by
      rcases Nat.lt_or_ge g w.heap.size with h1 | h1
      · exact h1
      · simp [Array.getElem?_eq_none h1] at hh
    rw [hb.block g hlt]; exact hh

/-- joined of a Fault on whatever lies under it. -/
theorem joined_any (b o : Nat) (u : Value) (es : List Int) (w : World) (hu : w.cell? ⟨b, o + 2, none⟩ = some u) (hc : Chained w u es) :
    Calls Tryz.prog 64 #[.iface 127 (.pointer (some ⟨b, o, none⟩))] w fun ev w' => ev = .returned (.slice none 0 0) ∧ Below w.heap.size w w' := by
  cases es with
  | nil => cases hc; exact joined_bare b o w hu
  | cons e es => obtain ⟨b', o', u', rfl, _⟩ := hc; exact joined_over b o _ _ w hu

theorem infoErrno : (Tryz.prog.info? 28).map (fun i => (i.zero, i.size, i.bytes)) = some (some (.int .i64 0), 1, 8) := by kernel_rfl

set_option maxRecDepth 100000 in
set_option maxHeartbeats 2000000 in
theorem follow_chain (v : Value) (es : List Int) (w : World) (hg : ErrType w) (hc : Chained w v es) (hl : es.length ≤ 1000) :
    Calls Tryz.prog 53 #[.slice none 0 0, v, .int .i64 0] w fun ev w' => ∃ s, ev = .returned s ∧ w'.ownsRow w.heap.size 28 1 s es.length (es.map (Value.int .i64)) ∧ Below w.heap.size w w' := by
  obtain ⟨i0, hi, hz0, hz1, hz2⟩ := info_parts infoErrno
  have HG := Lib.hid hg
  go_enter Tryz.func53, Tryz.ntmps53
  go_wp2
  go_loopw [0, 1, 2] (fun s e lv wr => ∃ ds rs : List Int, ds ++ rs = es ∧ lv = .int .i64 ds.length ∧ wr.ownsRow w.heap.size 28 1 s ds.length (ds.map (Value.int .i64)) ∧ Chained w e rs ∧ Below w.heap.size w wr) (fun _ _ lv _ => 1001 - (intOf lv).toNat)
  case atStart => exact ⟨[], es, rfl, rfl, World.ownsRow_nil _ _ _ _, hc, Below.refl _ _⟩
  case round =>
    obtain ⟨ds, rs, hes, rfl, hown, hch, hb⟩ := hrel
    have hdl : ds.length + rs.length ≤ 1000 := by rw [← hes] at hl; simpa using hl
    have HES := Lib.hid hes
    clear hes hc
    cases rs with
    | nil =>
      cases hch
      go_wp2
      go_ret
      refine ⟨_, rfl, ?_, hb⟩
      have := HES.out; simp at this; subst this; exact hown
    | cons x rs =>
      obtain ⟨b, o, u, rfl, he, hu, hr⟩ := hch
      have hd : (ds.length : Int) < 131072 := by simp at hdl; omega
      have hE1 : wr.cell? ⟨b, o, none⟩ = some (.int .i64 x) := by rw [hb.cell (p := ⟨b, o, none⟩) (cell_lt he)]; exact he
      have HU := Lib.hid hu
      have HR := Lib.hid hr
      have HB := Lib.hid hb
      clear hu hr he
      go_wp2_with fail
      go_at_call 63
      refine (own_fault b o x wr (HG.out.below hb) hE1).mono ?_
      rintro ev w1 ⟨rfl, hb1⟩
      have hown1 := ownsRow_below hb1 hown
      clear hown hE1
      have hbz := hb.size
      have hbz1 := hb1.size
      go_wp2_with (at_builtin; refine wpList_append_own _ rfl (.tmp 25) (.tmp 27) 67 rfl w.heap.size 28 i0 (.int .i64 0) 1 8 Tryz.underlying67 hi hz0 hz1 hz2 rfl (by decide) _ _ _ rfl (hown1.alloc _) ⟨w1.heap.size, 0, none⟩ 1 1 [.int .i64 x] rfl rfl ?c1 ?c2 ?c3 ?c4 ?c5 ?_)
      case c1 =>
        intro j u hj
        match j, hj with
        | 0, hj => simp at hj; subst hj; simp [Addr.add]
      case c2 => intro u hu; simp at hu; subst hu; rfl
      case c3 => unfold maxLen; simp at hdl; omega
      case c4 => simp at hdl; omega
      case c5 => simp; omega
      · intro v' w2 hown2 hgrow _
        have hb2 : Below w.heap.size w w2 := by
          refine Below.grown ((HB.out.trans (hb1.mono hbz)).alloc (by omega) _) hgrow (by simp; omega) ?_
          intro k hk
          exact (hown1.lt k hk).1
        have hu2 : w2.cell? ⟨b, o + 2, none⟩ = some u := by rw [hb2.cell (p := ⟨b, o + 2, none⟩) (cell_lt HU.out)]; exact HU.out
        have hr2 := HR.out.below hb2
        have HR2 := Lib.hid hr2
        have HB2 := Lib.hid hb2
        clear hown1 hgrow hb1 hb hr2 hb2
        go_wp2_with fail
        go_at_call 64
        refine (joined_any b o u rs w2 hu2 HR2.out).mono ?_
        rintro ev w3 ⟨rfl, hb3⟩
        have hown3 := ownsRow_below hb3 hown2
        have hz3 := hb3.size
        have hz2 := HB2.out.size
        have hb3' : Below w.heap.size w w3 := HB2.out.trans (hb3.mono hz2)
        have hu3 : w3.cell? ⟨b, o + 2, none⟩ = some u := by rw [hb3'.cell (p := ⟨b, o + 2, none⟩) (cell_lt HU.out)]; exact HU.out
        have HB3 := Lib.hid hb3'
        clear hown2 hb3 hb3' hu2
        go_wp2
        refine wp_loop_rounds 1 ?_
        rw [rounds_succ]
        go_wp2_with (go_at_call 65; refine (unwrap_fault b o u _ hu3).mono ?_; rintro ev w4 ⟨rfl, rfl⟩)
        go_roundw
        case rel => exact ⟨ds ++ [x], rs, by simpa using HES.out, by simp, by simpa using hown3, HR.out, HB3.out⟩
        case measure => simp at hdl; simp [intOf]; omega
/-- Chain of a chain of Faults: its numbers, in memory of its own. -/
theorem chain_any (v : Value) (es : List Int) (w : World) (hg : ErrType w) (hc : Chained w v es) (hl : es.length ≤ 1000) :
    Calls Tryz.prog 41 #[v] w fun ev w' => ∃ s, ev = .returned s ∧ w'.ownsRow w.heap.size 28 1 s es.length (es.map (Value.int .i64)) ∧ Below w.heap.size w w' := by
  go_enter Tryz.func41, Tryz.ntmps41
  go_wp2_with (go_at_call 53; refine (follow_chain v es _ hg hc hl).mono ?_; rintro ev w' ⟨s, rfl, hown, hb⟩)
  go_ret
  exact ⟨s, rfl, hown, hb⟩
/-- What an owned slice of numbers is: nil, or a row whose first cells are they. -/
theorem owned_form {w : World} {base : Nat} {e : TypeId} {s : Value} {n : Nat} {xs : List Value} (h : w.ownsRow base e 1 s n xs) :
    (s = .slice none 0 0 ∧ xs = [] ∧ n = 0) ∨ ∃ g cap, s = .slice (some ⟨g, 0, none⟩) n cap ∧ ∀ j u, xs[j]? = some u → w.cell? ⟨g, j, none⟩ = some u := by
  have h' := h
  obtain ⟨h1, h2 | ⟨g, cap, cur, hv, hg, hh, r⟩⟩ := h
  · obtain ⟨rfl, rfl⟩ := h2
    refine .inl ⟨rfl, ?_, rfl⟩
    cases xs with
    | nil => rfl
    | cons x xs => simp at h1
  · refine .inr ⟨g, cap, hv, fun j u hu => ?_⟩
    have := h'.cells (g := g) (by rw [hv]; rfl) j u hu
    have e : (⟨g, 0, none⟩ : Addr).add j = ⟨g, j, none⟩ := by
      by_cases hj : j = 0 <;> simp [Addr.add, hj]
    rw [e] at this; exact this
/-- Code of a chain of Faults: the first number, or 0. -/
theorem code_any (v : Value) (es : List Int) (w : World) (hg : ErrType w) (hc : Chained w v es) (hl : es.length ≤ 1000) :
    Calls Tryz.prog 22 #[v] w fun ev w' => ev = .returned (.int .i64 (es.headD 0)) ∧ Below w.heap.size w w' := by
  have HG := Lib.hid hg
  have HC := Lib.hid hc
  clear hg hc
  go_enter Tryz.func22, Tryz.ntmps22
  go_wp2_with fail
  go_at_call 41
  refine (chain_any v es w HG.out HC.out hl).mono ?_
  rintro ev w' ⟨s, rfl, hown, hb⟩
  have HB := Lib.hid hb
  clear hb
  cases es with
  | nil =>
    rcases owned_form hown with ⟨rfl, _, _⟩ | ⟨g, cap, rfl, _⟩
    · clear hown
      go_wp2
      go_ret
      exact ⟨rfl, HB.out⟩
    · clear hown
      go_wp2
      go_ret
      exact ⟨rfl, HB.out⟩
  | cons e es =>
    rcases owned_form hown with ⟨_, h, _⟩ | ⟨g, cap, rfl, hcell⟩
    · simp at h
    · have h0 := hcell 0 (.int .i64 e) rfl
      have hlen : (0 : Int) < ((e :: es).length : Int) := by simp
      clear hown hcell
      go_wp2
      go_ret
      exact ⟨rfl, HB.out⟩
end Go.Proofs.YthjinpbclfankaaGreatDoor
