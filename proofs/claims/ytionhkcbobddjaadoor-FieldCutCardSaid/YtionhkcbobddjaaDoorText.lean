/-
  The writer's Text, by contracts: its length in two bytes, and it; what is too long is ErrLong, and nothing is written.
-/
import Derived.Test.YtionhkcbobddjaaDoorWriter
import Derived.Lib.AppendStr
namespace Go.Proofs.YtionhkcbobddjaaDoor
open Go.RowKit Go.Extern.Stop Go.Stop Go.Extern Go.PlainAid Go.Lib

/-- A text's bytes, as numbers. -/
def nums (s : ByteArray) : List Int := s.data.toList.map fun c => (c.toNat : Int)
theorem nums_length (s : ByteArray) : (nums s).length = s.size := by simp [nums]
theorem strCells_nums (s : ByteArray) : strCells s = (nums s).map (Value.int .u8) := by simp [strCells, nums, Function.comp_def]

/-- append of a text's bytes to a slice that owns something: where the new slice lies. -/
theorem run_append_text {P : Program} (w : World) (base : Nat) (t u ty e : TypeId) (i : TypeInfo) (ht : P.underlying t = some (.slice e)) (hu : P.underlying u = some .string) (hi : P.info? e = some i) (hz : i.zero = some (.int .u8 0))
    (hsize : i.size = 1) (hby : i.bytes = 1) (v : Value) (n : Nat) (xs : List Value) (hown : w.ownsRow base e 1 v n xs) (s : ByteArray) (hn : 0 < n)
    (h63 : n + s.size ≤ maxLen) (hbytes : n + s.size ≤ 140737488355328) (hbase : base ≤ w.heap.size) :
    ∃ g cap w', (Builtin.append_ #[t, u] ty #[v, .string s]).run P w = .ok (.slice (some ⟨g, 0, none⟩) (n + s.size) cap) w' ∧ w'.ownsRow base e 1 (.slice (some ⟨g, 0, none⟩) (n + s.size) cap) (n + s.size) (xs ++ strCells s) ∧ w.grownBy w' v.ownBlock ∧
      (v.ownBlock = some g ∨ g = w.heap.size) := by
  obtain ⟨v', w', hr, h2, h3, _⟩ := run_append_own_string (P := P) w base t u ty e i ht hu hi hz hsize hby v n xs hown s h63 hbytes hbase
  have hown' := hown
  obtain ⟨hxl, h⟩ := hown
  rcases h with ⟨_, h0⟩ | ⟨g, cap, cur, rfl, hbg, hg, hnc, hcm, hcs, htake⟩
  · omega
  · have hsmall : n + s.size ≤ 9223372036854775807 := by simp only [maxLen] at h63; omega
    by_cases hroom : n + s.size ≤ cap
    · have hr' := run_append_room_string (P := P) w t u ty e i ht hu hi hsize g n cap cur hg s hroom (by omega)
      rw [hr] at hr'
      injection hr' with e1 e2
      subst e1
      exact ⟨g, cap, w', hr, h2, h3, .inl rfl⟩
    · have holds : ∀ j u, xs[j]? = some u → w.cell? ((⟨g, 0, none⟩ : Addr).add j) = some u := hown'.cells (g := g) rfl
      have hr' := run_append_grow_string (P := P) w t u ty e i (.int .u8 0) ht hu hi hz ⟨g, 0, none⟩ n cap xs (by rw [hsize]; exact hxl) holds s (by omega) (by omega) (by rw [hby]; exact growslice_fits (by omega) (by omega))
      rw [hr] at hr'
      injection hr' with e1 e2
      subst e1
      exact ⟨_, _, w', hr, h2, h3, .inr rfl⟩

theorem wpList_append_text {P : Program} (w : World) {ops : Array Oper} {rest : List Oper} {o : Oper} {a : Act} {Q : Exit → Act → World → Prop} (hgd : o.guard = none) (sl x : Operand) (t u : TypeId)
    (ho : o.op = .call { callee := .builtin .append, args := #[sl, x], argTypes := #[t, u] })
    (base : Nat) (e : TypeId) (i : TypeInfo) (ht : P.underlying t = some (.slice e)) (hu : P.underlying u = some .string) (hi : P.info? e = some i) (hz : i.zero = some (.int .u8 0))
    (hsize : i.size = 1) (hby : i.bytes = 1) (v : Value) (n : Nat) (xs : List Value) (hs : a.eval sl = v) (hown : w.ownsRow base e 1 v n xs) (s : ByteArray) (hx : a.eval x = .string s) (hn : 0 < n)
    (h63 : n + s.size ≤ maxLen) (hbytes : n + s.size ≤ 140737488355328) (hbase : base ≤ w.heap.size)
    (h : ∀ g cap w', w'.ownsRow base e 1 (.slice (some ⟨g, 0, none⟩) (n + s.size) cap) (n + s.size) (xs ++ strCells s) → w.grownBy w' v.ownBlock → (v.ownBlock = some g ∨ g = w.heap.size) → wpList P ops Q rest (a.put o.dst (.slice (some ⟨g, 0, none⟩) (n + s.size) cap)) w') : wpList P ops Q (o :: rest) a w := by
  refine wpList_plain hgd fun K hK => ?_
  obtain ⟨g, cap, w', hr, h2, h3, h4⟩ := run_append_text (P := P) w base t u o.type e i ht hu hi hz hsize hby v n xs hown s hn h63 hbytes hbase
  unfold Oper.wp execOp
  simp only [ho, resolve, invoke, builtin, Sem.run_bind, Sem.run_pure, Result.andThen_ok, List.map_toArray, List.map_cons, List.map_nil, hs, hx, hr]
  exact hK _ _ (h g cap w' h2 h3 h4)

theorem Fr.grown {b : Nat} {row row1 srow : Option Nat} {w w1 w2 : World} {v : Value} (hf : Fr b row w w1) (hr : RowOk row row1 w) (hg : w1.grownBy w2 srow) (hs : srow = row1) : Fr b row w (w2.setCell ⟨b, 0, none⟩ v) := by
  subst hs
  have hz := hf.size
  have hz2 := hg.size
  refine ⟨hg.os.trans hf.os, hg.tape.trans hf.tape, hg.output.trans hf.output, by simp [World.setCell]; omega, fun k hk hkb hkr => ?_⟩
  rw [Below.heap_setCell _ _ _ _ (by simpa using hkb), hg.block k (by omega) ?_]
  · exact hf.block k hk hkb hkr
  · rcases hr with h | ⟨g, h, hge⟩
    · rw [h]; exact hkr
    · rw [h]; intro e; injection e with e; omega

set_option maxRecDepth 100000 in
theorem text_ok (b : Nat) (row : Option Nat) (bs : List Int) (s : ByteArray) (w : World) (hs : s.size ≤ 1024) (hW : Wrt w b row bs) (hl : bs.length ≤ 90000000) :
    Calls Tryd.prog 14 #[.pointer (some ⟨b, 0, none⟩), .string s] w fun e w' => e = .returned .nilIface ∧
      ∃ row', Wrt w' b row' (bs ++ leb s.size 2 ++ nums s) ∧ RowOk row row' w ∧ Fr b row w w' := by
  obtain ⟨i0, hi0, hz0, hz1, hz2⟩ := info_parts infoByte
  have HP := Lib.hid (put_any b row bs s.size 2 w (.inr (.inl rfl)) (by omega) (by omega) hW (by omega))
  have hsI : (s.size : Int) ≤ 1024 := by omega
  clear hW
  go_enter Tryd.func14, Tryd.ntmps14
  go_wp2_with fail
  go_at_call 32
  refine HP.out.mono ?_
  rintro e w1 ⟨rfl, row1, ⟨sv, hsv, hsf, hown, hrow⟩, hr1, hf1⟩
  have hl1 : (bs ++ leb (s.size : Int) (Int.toNat 2)).length = bs.length + 2 := by simp [leb]
  have hbl := cell_lt hsv
  have hne : sv.ownBlock ≠ some b := fun h => by have := (hown.lt b h).1; omega
  have HR1 := Lib.hid hr1
  have HF1 := Lib.hid hf1
  have HRow := Lib.hid hrow
  have HL := Lib.hid hl1
  rw [hl1] at hown
  clear hr1 hf1 hrow hl1
  go_wp2_with (at_builtin; refine wpList_append_text _ rfl (.tmp 18) (.tmp 19) 27 9 rfl (b + 1) 5 i0 Tryd.underlying27 Tryd.underlying9 hi0 hz0 hz1 hz2 sv _ _ rfl hown s rfl (by omega) (by unfold maxLen; omega) (by omega) (by omega) ?_; intro g cap w2 hown2 hgrow hat; (have hf2 : w2.frozen? ⟨b, 0, none⟩ = false := by rw [hgrow.frozen_far _ hbl (Ne.symm hne)]; exact hsf); (have hc2 : w2.cell? ⟨b, 0, none⟩ = some sv := by rw [hgrow.cell_far _ hbl (Ne.symm hne)]; exact hsv))
  go_ret
  refine ⟨rfl, some g, Wrt.stored hc2 hf2 ?_ ?_, ?_, HF1.out.grown HR1.out hgrow HRow.out⟩
  · have h2 : (bs ++ leb (s.size : Int) 2).length = bs.length + 2 := HL.out
    rw [List.length_append, nums_length, h2]
  · rw [List.map_append, ← strCells_nums]; exact hown2
  · rcases hat with h | h
    · have := HRow.out; rw [h] at this; rw [this]; exact HR1.out
    · exact .inr ⟨g, rfl, by have := HF1.out.size; omega⟩

theorem text_bad (b : Nat) (row : Option Nat) (bs : List Int) (s : ByteArray) (w : World) (hs : 1024 < s.size) (hW : Wrt w b row bs) :
    Calls Tryd.prog 14 #[.pointer (some ⟨b, 0, none⟩), .string s] w fun e w' => ∃ v, e = .returned v ∧ Chained w' v [11] ∧ Below w.heap.size w w' := by
  have hsI : (1024 : Int) < (s.size : Int) := by omega
  have HP := Lib.hid (wfault b row bs 11 w (by decide) hW)
  clear hW
  go_enter Tryd.func14, Tryd.ntmps14
  go_wp2_with (go_at_call 31; refine HP.out.mono ?_; rintro e w' ⟨v, rfl, hP⟩)
  go_ret
  exact ⟨v, rfl, hP⟩
end Go.Proofs.YtionhkcbobddjaaDoor
