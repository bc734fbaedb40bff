/-
  A new writer, and the writer's Bytes, by contracts; what is kept of a writer when other memory turns.

  The writer's Text, by contracts: its length in two bytes, and it; what is too long is ErrLong, and nothing is written.

  unite, by contracts: the number that bytes make, the lowest first.

  The reader of package field, by contracts: left, fault, NewReader, At, End.

  The reader's Num, by contracts.
-/
import Derived.Test.YtmmpknfkncgjpaaGreatDoorM09
import Derived.Laws.BytesArg
import Derived.Lib.AppendStr
import Derived.Deep.QuietTactic
import Derived.BigQuiet
import Derived.Lib.EndianBits
import Derived.WalkSmall
namespace Go.Proofs.YtmmpknfkncgjpaaGreatDoor
open Go.RowKit Go.Extern.Stop Go.Stop Go.Extern Go.PlainAid

theorem Wrt.below {w w' : World} (hb : Below w.heap.size w w') {b : Nat} {row : Option Nat} {bs : List Int} (h : Wrt w b row bs) : Wrt w' b row bs := by
  obtain ⟨s, hs, hf, ho, hr⟩ := h
  have hl := cell_lt hs
  exact ⟨s, by rw [hb.cell (p := ⟨b, 0, none⟩) hl]; exact hs, by rw [hb.frozen (p := ⟨b, 0, none⟩) hl]; exact hf, ownsRow_below hb ho, hr⟩

theorem Wrt.lt {w : World} {b : Nat} {row : Option Nat} {bs : List Int} (h : Wrt w b row bs) : b < w.heap.size := by
  obtain ⟨s, hs, _⟩ := h; exact cell_lt hs

theorem Wrt.row_lt {w : World} {b g : Nat} {row : Option Nat} {bs : List Int} (h : Wrt w b row bs) (hg : row = some g) : b < g ∧ g < w.heap.size := by
  obtain ⟨s, hs, hf, ho, hr⟩ := h
  have := ho.lt g (hr.trans hg); omega

/-- Below block b nothing has turned, if the row lies behind b. -/
theorem Fr.below {w w' : World} {b : Nat} {row : Option Nat} (h : Fr b row w w') (hb : b ≤ w.heap.size) (hr : ∀ g, row = some g → b < g) : Below b w w' :=
  ⟨h.os, h.tape, h.output, h.size, fun k hk => h.block k (by omega) (by omega) (fun e => by have := hr k e.symm; omega)⟩

theorem newWriter (w : World) :
    Calls Tryz.prog 43 #[] w fun e w' => e = .returned (.pointer (some ⟨w.heap.size, 0, none⟩)) ∧ Wrt w' w.heap.size none [] ∧ Below w.heap.size w w' ∧ w.heap.size < w'.heap.size := by
  go_enter Tryz.func43, Tryz.ntmps43
  go_wp2
  go_ret
  exact ⟨rfl, ⟨.slice none 0 0, by simp, by simp, World.ownsRow_nil _ _ _ _, rfl⟩, by go_grown, by simp⟩

/-- Bytes: all that is written. -/
theorem bytes_any (b : Nat) (row : Option Nat) (bs : List Int) (w : World) (hW : Wrt w b row bs) :
    Calls Tryz.prog 46 #[.pointer (some ⟨b, 0, none⟩)] w fun e w' => e = .returned (.string (strOfNums bs)) ∧ w = w' := by
  obtain ⟨s, hs, hf, ho, hr⟩ := hW
  rcases owned_form ho with ⟨rfl, h0, _⟩ | ⟨g, cap, rfl, hcell⟩
  · have hcv := run_convert_bytes_nil (P := Tryz.prog) w 73 5 Tryz.underlying73 Tryz.underlying5 0 0 9 Tryz.underlying9
    have hbs : bs = [] := by simpa using h0
    subst hbs
    clear ho hr hf h0
    go_enter Tryz.func46, Tryz.ntmps46
    go_wp2
    go_ret
    exact ⟨rfl, rfl⟩
  · have hcv := run_convert_bytes_arg (P := Tryz.prog) w 73 5 Tryz.underlying73 Tryz.underlying5 g 0 bs.length cap bs rfl (fun i hi => by
      rw [Nat.zero_add]
      exact hcell i _ (by rw [List.getElem?_map, List.getElem?_eq_getElem hi]; simp [List.getElem?_eq_getElem hi])) 9 Tryz.underlying9
    clear ho hr hf hcell
    go_enter Tryz.func46, Tryz.ntmps46
    go_wp2
    go_ret
    exact ⟨rfl, rfl⟩
end Go.Proofs.YtmmpknfkncgjpaaGreatDoor

namespace Go.Proofs.YtmmpknfkncgjpaaGreatDoor
open Go.RowKit Go.Extern.Stop Go.Stop Go.Extern Go.PlainAid Go.Lib

/-- A text's bytes, as numbers. -/
def nums (s : ByteArray) : List Int := s.data.toList.map fun c => (c.toNat : Int)
theorem nums_length (s : ByteArray) : (nums s).length = s.size := by simp [nums]
theorem strCells_nums (s : ByteArray) : strCells s = (nums s).map (Value.int .u8) := by simp [strCells, nums, Function.comp_def]

/-- append of a text's bytes to a slice that owns something: where the new slice lies. -/
theorem run_append_text {P : Program} (w : World) (base : Nat) (t u ty e : TypeId) (i : TypeInfo) (ht : P.underlying t = some (.slice e)) (hu : P.underlying u = some .string) (hi : P.info? e = some i) (hz : i.zero = some (.int .u8 0))
    (hsize : i.size = 1) (hby : i.bytes = 1) (v : Value) (n : Nat) (xs : List Value) (hown : w.ownsRow base e 1 v n xs) (s : ByteArray) (hn : 0 < n)
    (h63 : n + s.size ≤ maxLen) (hbytes : n + s.size ≤ 140737488355328) (hbase : base ≤ w.heap.size) :
    ∃ g cap w', (Builtin.append_ #[t, u] ty #[v, .string s]).run P w = .ok (.slice (some ⟨g, 0, none⟩) (n + s.size) cap) w' ∧ w'.ownsRow base e 1 (.slice (some ⟨g, 0, none⟩) (n + s.size) cap) (n + s.size) (xs ++ strCells s) ∧ w.grownBy w' v.ownBlock ∧
      (v.ownBlock = some g ∨ g = w.heap.size) := by
  obtain ⟨v', w', hr, h2, h3, _⟩ := run_append_own_string (P := P) w base t u ty e i ht hu hi hz hsize hby v n xs hown s h63 hbytes hbase
  have hown' := hown
  obtain ⟨hxl, h⟩ := hown
  rcases h with ⟨_, h0⟩ | ⟨g, cap, cur, rfl, hbg, hg, hnc, hcm, hcs, htake⟩
  · omega
  · have hsmall : n + s.size ≤ 9223372036854775807 := by simp only [maxLen] at h63; omega
    by_cases hroom : n + s.size ≤ cap
    · have hr' := run_append_room_string (P := P) w t u ty e i ht hu hi hsize g n cap cur hg s hroom (by omega)
      rw [hr] at hr'
      injection hr' with e1 e2
      subst e1
      exact ⟨g, cap, w', hr, h2, h3, .inl rfl⟩
    · have holds : ∀ j u, xs[j]? = some u → w.cell? ((⟨g, 0, none⟩ : Addr).add j) = some u := hown'.cells (g := g) rfl
      have hr' := run_append_grow_string (P := P) w t u ty e i (.int .u8 0) ht hu hi hz ⟨g, 0, none⟩ n cap xs (by rw [hsize]; exact hxl) holds s (by omega) (by omega) (by rw [hby]; exact growslice_fits (by omega) (by omega))
      rw [hr] at hr'
      injection hr' with e1 e2
      subst e1
      exact ⟨_, _, w', hr, h2, h3, .inr rfl⟩

theorem wpList_append_text {P : Program} (w : World) {ops : Array Oper} {rest : List Oper} {o : Oper} {a : Act} {Q : Exit → Act → World → Prop} (hgd : o.guard = none) (sl x : Operand) (t u : TypeId)
    (ho : o.op = .call { callee := .builtin .append, args := #[sl, x], argTypes := #[t, u] })
    (base : Nat) (e : TypeId) (i : TypeInfo) (ht : P.underlying t = some (.slice e)) (hu : P.underlying u = some .string) (hi : P.info? e = some i) (hz : i.zero = some (.int .u8 0))
    (hsize : i.size = 1) (hby : i.bytes = 1) (v : Value) (n : Nat) (xs : List Value) (hs : a.eval sl = v) (hown : w.ownsRow base e 1 v n xs) (s : ByteArray) (hx : a.eval x = .string s) (hn : 0 < n)
    (h63 : n + s.size ≤ maxLen) (hbytes : n + s.size ≤ 140737488355328) (hbase : base ≤ w.heap.size)
    (h : ∀ g cap w', w'.ownsRow base e 1 (.slice (some ⟨g, 0, none⟩) (n + s.size) cap) (n + s.size) (xs ++ strCells s) → w.grownBy w' v.ownBlock → (v.ownBlock = some g ∨ g = w.heap.size) → wpList P ops Q rest (a.put o.dst (.slice (some ⟨g, 0, none⟩) (n + s.size) cap)) w') : wpList P ops Q (o :: rest) a w := by
  refine wpList_plain hgd fun K hK => ?_
  obtain ⟨g, cap, w', hr, h2, h3, h4⟩ := run_append_text (P := P) w base t u o.type e i ht hu hi hz hsize hby v n xs hown s hn h63 hbytes hbase
  unfold Oper.wp execOp
  simp only [ho, resolve, invoke, builtin, Sem.run_bind, Sem.run_pure, Result.andThen_ok, List.map_toArray, List.map_cons, List.map_nil, hs, hx, hr]
  exact hK _ _ (h g cap w' h2 h3 h4)

theorem Fr.grown {b : Nat} {row row1 srow : Option Nat} {w w1 w2 : World} {v : Value} (hf : Fr b row w w1) (hr : RowOk row row1 w) (hg : w1.grownBy w2 srow) (hs : srow = row1) : Fr b row w (w2.setCell ⟨b, 0, none⟩ v) := by
  subst hs
  have hz := hf.size
  have hz2 := hg.size
  refine ⟨hg.os.trans hf.os, hg.tape.trans hf.tape, hg.output.trans hf.output, by simp [World.setCell]; omega, fun k hk hkb hkr => ?_⟩
  rw [Below.heap_setCell _ _ _ _ (by simpa using hkb), hg.block k (by omega) ?_]
  · exact hf.block k hk hkb hkr
  · rcases hr with h | ⟨g, h, hge⟩
    · rw [h]; exact hkr
    · rw [h]; intro e; injection e with e; omega

set_option maxRecDepth 100000 in
theorem text_ok (b : Nat) (row : Option Nat) (bs : List Int) (s : ByteArray) (w : World) (hs : s.size ≤ 1024) (hW : Wrt w b row bs) (hl : bs.length ≤ 90000000) :
    Calls Tryz.prog 45 #[.pointer (some ⟨b, 0, none⟩), .string s] w fun e w' => e = .returned .nilIface ∧
      ∃ row', Wrt w' b row' (bs ++ leb s.size 2 ++ nums s) ∧ RowOk row row' w ∧ Fr b row w w' := by
  obtain ⟨i0, hi0, hz0, hz1, hz2⟩ := info_parts infoByte
  have HP := Lib.hid (put_any b row bs s.size 2 w (.inr (.inl rfl)) (by omega) (by omega) hW (by omega))
  have hsI : (s.size : Int) ≤ 1024 := by omega
  clear hW
  go_enter Tryz.func45, Tryz.ntmps45
  go_wp2_with fail
  go_at_call 80
  refine HP.out.mono ?_
  rintro e w1 ⟨rfl, row1, ⟨sv, hsv, hsf, hown, hrow⟩, hr1, hf1⟩
  have hl1 : (bs ++ leb (s.size : Int) (Int.toNat 2)).length = bs.length + 2 := by simp [leb]
  have hbl := cell_lt hsv
  have hne : sv.ownBlock ≠ some b := fun h => by have := (hown.lt b h).1; omega
  have HR1 := Lib.hid hr1
  have HF1 := Lib.hid hf1
  have HRow := Lib.hid hrow
  have HL := Lib.hid hl1
  rw [hl1] at hown
  clear hr1 hf1 hrow hl1
  go_wp2_with (at_builtin; refine wpList_append_text _ rfl (.tmp 18) (.tmp 19) 73 9 rfl (b + 1) 5 i0 Tryz.underlying73 Tryz.underlying9 hi0 hz0 hz1 hz2 sv _ _ rfl hown s rfl (by omega) (by unfold maxLen; omega) (by omega) (by omega) ?_; intro g cap w2 hown2 hgrow hat; (have hf2 : w2.frozen? ⟨b, 0, none⟩ = false := by rw [hgrow.frozen_far _ hbl (Ne.symm hne)]; exact hsf); (have hc2 : w2.cell? ⟨b, 0, none⟩ = some sv := by rw [hgrow.cell_far _ hbl (Ne.symm hne)]; exact hsv))
  go_ret
  refine ⟨rfl, some g, Wrt.stored hc2 hf2 ?_ ?_, ?_, HF1.out.grown HR1.out hgrow HRow.out⟩
  · have h2 : (bs ++ leb (s.size : Int) 2).length = bs.length + 2 := HL.out
    rw [List.length_append, nums_length, h2]
  · rw [List.map_append, ← strCells_nums]; exact hown2
  · rcases hat with h | h
    · have := HRow.out; rw [h] at this; rw [this]; exact HR1.out
    · exact .inr ⟨g, rfl, by have := HF1.out.size; omega⟩

theorem text_bad (b : Nat) (row : Option Nat) (bs : List Int) (s : ByteArray) (w : World) (hs : 1024 < s.size) (hW : Wrt w b row bs) :
    Calls Tryz.prog 45 #[.pointer (some ⟨b, 0, none⟩), .string s] w fun e w' => ∃ v, e = .returned v ∧ Chained w' v [11] ∧ Below w.heap.size w w' := by
  have hsI : (1024 : Int) < (s.size : Int) := by omega
  have HP := Lib.hid (wfault b row bs 11 w (by decide) hW)
  clear hW
  go_enter Tryz.func45, Tryz.ntmps45
  go_wp2_with (go_at_call 79; refine HP.out.mono ?_; rintro e w' ⟨v, rfl, hP⟩)
  go_ret
  exact ⟨v, rfl, hP⟩
end Go.Proofs.YtmmpknfkncgjpaaGreatDoor

namespace Go.Proofs.YtmmpknfkncgjpaaGreatDoor
open Go.RowKit Go.Extern.Stop Go.Stop Go.Extern Go.PlainAid Go.Lib

/-- The number that the first k bytes of s make, the lowest first. -/
def lev (s : ByteArray) : Nat → Int
  | 0 => 0
  | k + 1 => lev s k + bt s k * 256 ^ k

theorem or_hi (i : Nat) (x y : Int) (hx0 : 0 ≤ x) (hx : x % 2 ^ i = 0) (hx1 : x < 2 ^ 64) (hy0 : 0 ≤ y) (hy : y < 2 ^ i) (hy1 : y < 2 ^ 64) : bits .or .u64 x y = x + y :=
  bits_join .u64 64 (by decide) wraps_u64 i x y hx0 hx hx1 hy0 hy hy1

theorem or_zero (y : Int) (h0 : 0 ≤ y) (h1 : y < 18446744073709551616) : bits .or .u64 0 y = y := by
  rw [or_hi 64 0 y (by decide) (by decide) (by decide) h0 (by simpa using h1) (by simpa using h1)]; omega
theorem wrap_bt (s : ByteArray) (k : Nat) : IntKind.u64.wrap (bt s k) = bt s k := u64_wrap_id _ (bt_nonneg s k) (by have := bt_le s k; omega)
theorem wrap_sh (s : ByteArray) (k : Nat) (m : Int) (h0 : 0 ≤ m) (h : m ≤ 72057594037927936) : IntKind.u64.wrap (bt s k * m) = bt s k * m := by
  have h1 := bt_le s k
  have h2 := bt_nonneg s k
  have h3 : bt s k * m ≤ 255 * m := Int.mul_le_mul_of_nonneg_right h1 h0
  have h4 : 0 ≤ bt s k * m := Int.mul_nonneg h2 h0
  exact u64_wrap_id _ h4 (by omega)
theorem ret_int {k : IntKind} {a b : Int} (h : a = b) : Ending.returned (.int k a) = .returned (.int k b) := by rw [h]
theorem val1 (s : ByteArray) : bits BinOp.or IntKind.u64 (0) (IntKind.u64.wrap (bt s 0)) = lev s 1 := by
  have g0 := bt_nonneg s 0
  have l0 := bt_le s 0
  simp only [wrap_bt]
  rw [or_zero _ (by omega) (by omega)]
  simp only [lev]
  omega
theorem val2 (s : ByteArray) : bits BinOp.or IntKind.u64 (bits BinOp.or IntKind.u64 (0) (IntKind.u64.wrap (IntKind.u64.wrap (bt s 1) * 256))) (IntKind.u64.wrap (bt s 0)) = lev s 2 := by
  have g0 := bt_nonneg s 0
  have l0 := bt_le s 0
  have g1 := bt_nonneg s 1
  have l1 := bt_le s 1
  simp only [wrap_bt, wrap_sh s 1 256 (by decide) (by decide)]
  rw [or_zero _ (by omega) (by omega), or_hi 8 _ _ (by omega) (by omega) (by omega) (by omega) (by omega) (by omega)]
  simp only [lev]
  omega
theorem val4 (s : ByteArray) : bits BinOp.or IntKind.u64 (bits BinOp.or IntKind.u64 (bits BinOp.or IntKind.u64 (0) (bits BinOp.or IntKind.u64 (IntKind.u64.wrap (IntKind.u64.wrap (bt s 3) * 16777216)) (IntKind.u64.wrap (IntKind.u64.wrap (bt s 2) * 65536)))) (IntKind.u64.wrap (IntKind.u64.wrap (bt s 1) * 256))) (IntKind.u64.wrap (bt s 0)) = lev s 4 := by
  have g0 := bt_nonneg s 0
  have l0 := bt_le s 0
  have g1 := bt_nonneg s 1
  have l1 := bt_le s 1
  have g2 := bt_nonneg s 2
  have l2 := bt_le s 2
  have g3 := bt_nonneg s 3
  have l3 := bt_le s 3
  simp only [wrap_bt, wrap_sh s 1 256 (by decide) (by decide), wrap_sh s 2 65536 (by decide) (by decide), wrap_sh s 3 16777216 (by decide) (by decide)]
  rw [or_hi 24 (bt s 3 * 16777216) _ (by omega) (by omega) (by omega) (by omega) (by omega) (by omega), or_zero _ (by omega) (by omega), or_hi 16 (bt s 3 * 16777216 + bt s 2 * 65536) _ (by omega) (by omega) (by omega) (by omega) (by omega) (by omega), or_hi 8 _ _ (by omega) (by omega) (by omega) (by omega) (by omega) (by omega)]
  simp only [lev]
  omega
theorem val8 (s : ByteArray) : bits BinOp.or IntKind.u64 (bits BinOp.or IntKind.u64 (bits BinOp.or IntKind.u64 (bits BinOp.or IntKind.u64 (bits BinOp.or IntKind.u64 (bits BinOp.or IntKind.u64 (IntKind.u64.wrap (IntKind.u64.wrap (bt s 7) * 72057594037927936)) (IntKind.u64.wrap (IntKind.u64.wrap (bt s 6) * 281474976710656))) (IntKind.u64.wrap (IntKind.u64.wrap (bt s 5) * 1099511627776))) (IntKind.u64.wrap (IntKind.u64.wrap (bt s 4) * 4294967296))) (bits BinOp.or IntKind.u64 (IntKind.u64.wrap (IntKind.u64.wrap (bt s 3) * 16777216)) (IntKind.u64.wrap (IntKind.u64.wrap (bt s 2) * 65536)))) (IntKind.u64.wrap (IntKind.u64.wrap (bt s 1) * 256))) (IntKind.u64.wrap (bt s 0)) = lev s 8 := by
  have g0 := bt_nonneg s 0
  have l0 := bt_le s 0
  have g1 := bt_nonneg s 1
  have l1 := bt_le s 1
  have g2 := bt_nonneg s 2
  have l2 := bt_le s 2
  have g3 := bt_nonneg s 3
  have l3 := bt_le s 3
  have g4 := bt_nonneg s 4
  have l4 := bt_le s 4
  have g5 := bt_nonneg s 5
  have l5 := bt_le s 5
  have g6 := bt_nonneg s 6
  have l6 := bt_le s 6
  have g7 := bt_nonneg s 7
  have l7 := bt_le s 7
  simp only [wrap_bt, wrap_sh s 1 256 (by decide) (by decide), wrap_sh s 2 65536 (by decide) (by decide), wrap_sh s 3 16777216 (by decide) (by decide), wrap_sh s 4 4294967296 (by decide) (by decide), wrap_sh s 5 1099511627776 (by decide) (by decide), wrap_sh s 6 281474976710656 (by decide) (by decide), wrap_sh s 7 72057594037927936 (by decide) (by decide)]
  rw [or_hi 56 (bt s 7 * 72057594037927936) _ (by omega) (by omega) (by omega) (by omega) (by omega) (by omega), or_hi 48 (bt s 7 * 72057594037927936 + bt s 6 * 281474976710656) _ (by omega) (by omega) (by omega) (by omega) (by omega) (by omega), or_hi 40 (bt s 7 * 72057594037927936 + bt s 6 * 281474976710656 + bt s 5 * 1099511627776) _ (by omega) (by omega) (by omega) (by omega) (by omega) (by omega), or_hi 24 (bt s 3 * 16777216) _ (by omega) (by omega) (by omega) (by omega) (by omega) (by omega), or_hi 32 _ (bt s 3 * 16777216 + bt s 2 * 65536) (by omega) (by omega) (by omega) (by omega) (by omega) (by omega), or_hi 16 _ (bt s 1 * 256) (by omega) (by omega) (by omega) (by omega) (by omega) (by omega), or_hi 8 _ (bt s 0) (by omega) (by omega) (by omega) (by omega) (by omega) (by omega)]
  simp only [lev]
  omega
set_option maxRecDepth 100000 in
theorem unite1 (s : ByteArray) (w : World) (hs : 1 ≤ s.size) :
    Calls Tryz.prog 85 #[.string s, .int .i64 1] w fun e w' => e = .returned (.int .u64 (lev s 1)) ∧ ∃ n, w' = w.drewN n := by
  have hb := get_bt s
  have h0 : (0 : Int) < (s.size : Int) := by omega
  go_enter Tryz.func85, Tryz.ntmps85
  go_wp2
  go_ret
  exact ⟨ret_int (val1 s), 0, rfl⟩
set_option maxRecDepth 100000 in
theorem unite2 (s : ByteArray) (w : World) (hs : 2 ≤ s.size) :
    Calls Tryz.prog 85 #[.string s, .int .i64 2] w fun e w' => e = .returned (.int .u64 (lev s 2)) ∧ ∃ n, w' = w.drewN n := by
  have hb := get_bt s
  have h0 : (0 : Int) < (s.size : Int) := by omega
  have h1 : (1 : Int) < (s.size : Int) := by omega
  go_enter Tryz.func85, Tryz.ntmps85
  go_wp2
  go_ret
  exact ⟨ret_int (val2 s), 0, rfl⟩
set_option maxRecDepth 100000 in
theorem unite4 (s : ByteArray) (w : World) (hs : 4 ≤ s.size) :
    Calls Tryz.prog 85 #[.string s, .int .i64 4] w fun e w' => e = .returned (.int .u64 (lev s 4)) ∧ ∃ n, w' = w.drewN n := by
  have hb := get_bt s
  have h0 : (0 : Int) < (s.size : Int) := by omega
  have h1 : (1 : Int) < (s.size : Int) := by omega
  have h2 : (2 : Int) < (s.size : Int) := by omega
  have h3 : (3 : Int) < (s.size : Int) := by omega
  go_enter Tryz.func85, Tryz.ntmps85
  go_wp2
  go_quiet (fail)
  go_wp2
  go_ret
  exact ⟨ret_int (val4 s), _, rfl⟩
set_option maxRecDepth 100000 in
theorem unite8 (s : ByteArray) (w : World) (hs : 8 ≤ s.size) :
    Calls Tryz.prog 85 #[.string s, .int .i64 8] w fun e w' => e = .returned (.int .u64 (lev s 8)) ∧ ∃ n, w' = w.drewN n := by
  have hb := get_bt s
  have h0 : (0 : Int) < (s.size : Int) := by omega
  have h1 : (1 : Int) < (s.size : Int) := by omega
  have h2 : (2 : Int) < (s.size : Int) := by omega
  have h3 : (3 : Int) < (s.size : Int) := by omega
  have h4 : (4 : Int) < (s.size : Int) := by omega
  have h5 : (5 : Int) < (s.size : Int) := by omega
  have h6 : (6 : Int) < (s.size : Int) := by omega
  have h7 : (7 : Int) < (s.size : Int) := by omega
  go_enter Tryz.func85, Tryz.ntmps85
  go_wp2
  go_quiet (fail)
  go_wp2
  go_quiet (fail)
  go_wp2
  go_ret
  exact ⟨ret_int (val8 s), _, rfl⟩
end Go.Proofs.YtmmpknfkncgjpaaGreatDoor

namespace Go.Proofs.YtmmpknfkncgjpaaGreatDoor
open Go.RowKit Go.Extern.Stop Go.Stop Go.Extern Go.PlainAid Go.Lib

/-- A reader in block b: its bytes s; it stands at a. -/
def Rdr (w : World) (b : Nat) (s : ByteArray) (a : Nat) : Prop :=
  w.cell? ⟨b, 0, none⟩ = some (.string s) ∧ w.cell? ⟨b, 1, none⟩ = some (.int .i64 a) ∧ w.frozen? ⟨b, 1, none⟩ = false

theorem Rdr.lt {w : World} {b a : Nat} {s : ByteArray} (h : Rdr w b s a) : b < w.heap.size := cell_lt h.1
theorem Rdr.belowB {w w' : World} {B : Nat} (hb : Below B w w') {b a : Nat} {s : ByteArray} (hB : b < B) (h : Rdr w b s a) : Rdr w' b s a :=
  ⟨by rw [hb.cell (p := ⟨b, 0, none⟩) hB]; exact h.1, by rw [hb.cell (p := ⟨b, 1, none⟩) hB]; exact h.2.1, by rw [hb.frozen (p := ⟨b, 1, none⟩) hB]; exact h.2.2⟩
theorem Rdr.below {w w' : World} (hb : Below w.heap.size w w') {b a : Nat} {s : ByteArray} (h : Rdr w b s a) : Rdr w' b s a := h.belowB hb h.lt

theorem below_of_drew {w w' : World} (h : ∃ n, w' = w.drewN n) (B : Nat) : Below B w w' := by
  obtain ⟨n, rfl⟩ := h; exact below_drewN (Below.refl _ _) n

theorem newReader (s : ByteArray) (w : World) :
    Calls Tryz.prog 50 #[.string s] w fun e w' => e = .returned (.pointer (some ⟨w.heap.size, 0, none⟩)) ∧ Rdr w' w.heap.size s 0 ∧ Below w.heap.size w w' ∧ w.heap.size < w'.heap.size := by
  go_enter Tryz.func50, Tryz.ntmps50
  go_wp2
  go_ret
  exact ⟨rfl, ⟨by simp, by simp, by simp⟩, by go_grown, by simp⟩

theorem left_any (b a : Nat) (s : ByteArray) (w : World) (hR : Rdr w b s a) (ha : a ≤ s.size) (hs : s.size ≤ 1000000000) :
    Calls Tryz.prog 84 #[.pointer (some ⟨b, 0, none⟩)] w fun e w' => e = .returned (.int .i64 ((s.size - a : Nat) : Int)) ∧ ∃ n, w' = w.drewN n := by
  obtain ⟨h0, h1, h2⟩ := hR
  have e1 : IntKind.i64.wrap ((s.size : Int) - (a : Int)) = ((s.size - a : Nat) : Int) := by rw [IntWalk.i64_in _ (by omega)]; omega
  go_enter Tryz.func84, Tryz.ntmps84
  go_wp2
  go_quiet (fail)
  go_wp2
  go_ret
  refine ⟨ret_int ?_, _, rfl⟩
  first | exact e1 | omega

theorem rfault (b a : Nat) (s : ByteArray) (E : Int) (u : Value) (es : List Int) (w : World) (hE : E ≠ 0) (hR : Rdr w b s a) (hu : Chained w u es) :
    Calls Tryz.prog 83 #[.pointer (some ⟨b, 0, none⟩), .int .i64 E, u] w fun e w' => ∃ v, e = .returned v ∧ Chained w' v (E :: es) ∧ Below w.heap.size w w' := by
  obtain ⟨h0, h1, h2⟩ := hR
  have HP := Lib.hid (fun at_ => wrap_new E at_ u es w hE hu)
  clear hu h0 h2
  go_enter Tryz.func83, Tryz.ntmps83
  go_wp2_with (go_at_call 116; refine (HP.out _).mono ?_; rintro e w' ⟨v, rfl, hP⟩)
  go_ret
  exact ⟨v, rfl, hP⟩

end Go.Proofs.YtmmpknfkncgjpaaGreatDoor

namespace Go.Proofs.YtmmpknfkncgjpaaGreatDoor
open Go.RowKit Go.Extern.Stop Go.Stop Go.Extern Go.PlainAid Go.Lib

theorem unite_any (s : ByteArray) (k : Int) (w : World) (hk : Width k) (hs : k.toNat ≤ s.size) :
    Calls Tryz.prog 85 #[.string s, .int .i64 k] w fun e w' => e = .returned (.int .u64 (lev s k.toNat)) ∧ ∃ n, w' = w.drewN n := by
  rcases hk with rfl | rfl | rfl | rfl
  · exact unite1 s w hs
  · exact unite2 s w hs
  · exact unite4 s w hs
  · exact unite8 s w hs

theorem rnum_arg (b a : Nat) (s : ByteArray) (k : Int) (w : World) (hR : Rdr w b s a) (hk : ¬ Width k) :
    Calls Tryz.prog 51 #[.pointer (some ⟨b, 0, none⟩), .int .i64 k] w fun e w' => ∃ v, e = .returned (.tuple #[.int .i64 0, v]) ∧ Chained w' v [1] ∧ Below w.heap.size w w' := by
  have HW := Lib.hid (isWidth_no k w (fun h => hk (.inl h)) (fun h => hk (.inr (.inl h))) (fun h => hk (.inr (.inr (.inl h)))) (fun h => hk (.inr (.inr (.inr h)))))
  have HP := Lib.hid (rfault b a s 1 .nilIface [] w (by decide) hR rfl)
  clear hR hk
  go_enter Tryz.func51, Tryz.ntmps51
  go_wp2_with (first
    | (go_at_call 78; refine HW.out.mono ?_; rintro e w' ⟨rfl, rfl⟩)
    | (go_at_call 83; refine HP.out.mono ?_; rintro e w' ⟨v, rfl, hc, hb⟩))
  go_ret2
  exact ⟨v, rfl, hc, hb⟩

theorem rnum_short (b a : Nat) (s : ByteArray) (k : Int) (w : World) (hR : Rdr w b s a) (ha : a ≤ s.size) (hs : s.size ≤ 1000000000) (hk : Width k) (hl : ((s.size - a : Nat) : Int) < k) :
    Calls Tryz.prog 51 #[.pointer (some ⟨b, 0, none⟩), .int .i64 k] w fun e w' => ∃ v, e = .returned (.tuple #[.int .i64 0, v]) ∧ Chained w' v [10] ∧ Below w.heap.size w w' := by
  have HL := Lib.hid (left_any b a s w hR ha hs)
  have HR := Lib.hid hR
  clear hR ha hs
  generalize ((s.size - a : Nat) : Int) = d at hl HL
  go_enter Tryz.func51, Tryz.ntmps51
  go_wp2_with fail
  go_at_call 78
  refine (isWidth_yes _ _ hk).mono ?_
  rintro e w' ⟨rfl, rfl⟩
  go_wp2_with fail
  go_at_call 84
  refine HL.out.mono ?_
  rintro e w1 ⟨rfl, hw⟩
  have HW := Lib.hid (below_of_drew hw w.heap.size)
  clear hw
  go_wp2_with (go_at_call 83; refine (rfault b a s 10 _ [] _ (by decide) (HR.out.below HW.out) rfl).mono ?_; rintro e w' ⟨v, rfl, hc, hb⟩)
  go_ret2
  exact ⟨v, rfl, hc, HW.out.trans (hb.mono HW.out.size)⟩

theorem Rdr.stored {w w1 : World} {b a : Nat} {s : ByteArray} (hb : Below w.heap.size w w1) (h : Rdr w1 b s a) (c : Nat) :
    Rdr (w1.setCell ⟨b, 1, none⟩ (.int .i64 c)) b s c ∧ Fr b none w (w1.setCell ⟨b, 1, none⟩ (.int .i64 c)) := by
  obtain ⟨h0, h1, h2⟩ := h
  refine ⟨⟨?_, World.cell?_setCell_same _ _ _ h1, by rw [World.frozen?_setCell]; exact h2⟩, ⟨hb.os, hb.tape, hb.output, by simp [World.setCell]; exact hb.size, fun k hk hkb _ => ?_⟩⟩
  · rw [World.cell?_setCell_other _ _ _ _ (by simp)]; exact h0
  · rw [Below.heap_setCell _ _ _ _ (by simpa using hkb)]; exact hb.block k hk

set_option maxRecDepth 100000 in
theorem rnum_ok (b a : Nat) (s : ByteArray) (k : Int) (w : World) (hR : Rdr w b s a) (ha : a ≤ s.size) (hs : s.size ≤ 1000000000) (hk : Width k) (hl : k ≤ ((s.size - a : Nat) : Int)) (hv : lev (s.extract a s.size) k.toNat ≤ 9223372036854775807) (hv0 : 0 ≤ lev (s.extract a s.size) k.toNat) :
    Calls Tryz.prog 51 #[.pointer (some ⟨b, 0, none⟩), .int .i64 k] w fun e w' => e = .returned (.tuple #[.int .i64 (lev (s.extract a s.size) k.toNat), .nilIface]) ∧ Rdr w' b s (a + k.toNat) ∧ Fr b none w w' := by
  have HL := Lib.hid (left_any b a s w hR ha hs)
  have HR := Lib.hid hR
  have HU := Lib.hid (fun W => unite_any (s.extract a s.size) k W hk (by simp; omega))
  have hk0 : 0 ≤ k ∧ k ≤ 8 := by unfold Width at hk; omega
  have ha0 : (0 : Int) ≤ (a : Int) := Int.natCast_nonneg _
  have haI : (a : Int) ≤ (s.size : Int) := by omega
  have hld : (decide (((s.size - a : Nat) : Int) < k)) = false := by simp only [decide_eq_false_iff_not]; omega
  have hge : decide ((9223372036854775808 : Int) ≤ lev (s.extract a s.size) k.toNat) = false := by simp only [decide_eq_false_iff_not]; omega
  have hcv : IntKind.i64.wrap (lev (s.extract a s.size) k.toNat) = lev (s.extract a s.size) k.toNat := IntWalk.i64_in _ (by omega)
  have hadd : (a : Int) + k ≤ 2000000000 := by omega
  clear hR hl
  generalize lev (s.extract a s.size) k.toNat = V at HU hv hv0 hge hcv ⊢
  clear hv hv0
  generalize ((s.size - a : Nat) : Int) = d at hld HL
  go_enter Tryz.func51, Tryz.ntmps51
  go_wp2_with fail
  go_at_call 78
  refine (isWidth_yes _ _ hk).mono ?_
  rintro e w' ⟨rfl, rfl⟩
  go_wp2_with fail
  go_at_call 84
  refine HL.out.mono ?_
  rintro e w1 ⟨rfl, hw⟩
  have HW := Lib.hid (below_of_drew hw w.heap.size)
  obtain ⟨h0, h1, h2⟩ := HR.out.below HW.out
  clear hw
  go_wp2_with fail
  go_quiet ((go_at_call 85; exact Calls.quiet_of (HU.out _)))
  go_wp2
  go_ret2
  have ek : (a : Int) + k = ((a + k.toNat : Nat) : Int) := by omega
  rw [ek]
  exact ⟨rfl, Rdr.stored (below_drewN HW.out nq) ⟨h0, h1, h2⟩ _⟩

set_option maxRecDepth 100000 in
theorem rnum_long (b a : Nat) (s : ByteArray) (k : Int) (w : World) (hR : Rdr w b s a) (ha : a ≤ s.size) (hs : s.size ≤ 1000000000) (hk : Width k) (hl : k ≤ ((s.size - a : Nat) : Int)) (hv : 9223372036854775807 < lev (s.extract a s.size) k.toNat) :
    Calls Tryz.prog 51 #[.pointer (some ⟨b, 0, none⟩), .int .i64 k] w fun e w' => ∃ v, e = .returned (.tuple #[.int .i64 0, v]) ∧ Chained w' v [11] ∧ Below w.heap.size w w' := by
  have HL := Lib.hid (left_any b a s w hR ha hs)
  have HR := Lib.hid hR
  have HU := Lib.hid (fun W => unite_any (s.extract a s.size) k W hk (by simp; omega))
  have ha0 : (0 : Int) ≤ (a : Int) := Int.natCast_nonneg _
  have haI : (a : Int) ≤ (s.size : Int) := by omega
  have hld : (decide (((s.size - a : Nat) : Int) < k)) = false := by simp only [decide_eq_false_iff_not]; omega
  have hge : decide ((9223372036854775808 : Int) ≤ lev (s.extract a s.size) k.toNat) = true := by simp only [decide_eq_true_eq]; omega
  clear hR hl hv
  generalize lev (s.extract a s.size) k.toNat = V at HU hge
  generalize ((s.size - a : Nat) : Int) = d at hld HL
  go_enter Tryz.func51, Tryz.ntmps51
  go_wp2_with fail
  go_at_call 78
  refine (isWidth_yes _ _ hk).mono ?_
  rintro e w' ⟨rfl, rfl⟩
  go_wp2_with fail
  go_at_call 84
  refine HL.out.mono ?_
  rintro e w1 ⟨rfl, hw⟩
  have HW := Lib.hid (below_of_drew hw w.heap.size)
  obtain ⟨h0, h1, h2⟩ := HR.out.below HW.out
  clear hw
  go_wp2_with fail
  go_quiet ((go_at_call 85; exact Calls.quiet_of (HU.out _)))
  go_wp2_with (go_at_call 83; refine (rfault b a s 11 _ [] _ (by decide) (Rdr.below (below_drewN (Below.refl _ _) _) (HR.out.below HW.out)) rfl).mono ?_; rintro e w' ⟨v, rfl, hc, hb⟩)
  go_ret2
  exact ⟨v, rfl, hc, (below_drewN HW.out nq).trans (hb.mono HW.out.size)⟩
end Go.Proofs.YtmmpknfkncgjpaaGreatDoor
